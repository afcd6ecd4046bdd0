/- The tree of numbers: a thing goes. -/
import Derived.Test.YtcnmobehamgmbaaRbI
namespace Go.Proofs.Ytcnmobehamgmbaa
open Go.RowKit

theorem Tr.up1_red {α : Type} {g : Nat} {c : Bool} {l r : Tr α} {x : α} (h : l.red = true) : (Tr.node g c l x r).up1 = (Tr.node g c l x r).turnRight := by simp [Tr.up1, Tr.left_node, h]
theorem Tr.rem_left {α : Type} {lt : α → α → Bool} {N : Nat} {x y : α} {g : Nat} {c : Bool} {l r : Tr α} (h : lt x y = true) :
    Tr.rem lt (N + 1) x (.node g c l y r) = Tr.balance ((Tr.node g c l y r).lendLeft.setLeft (Tr.rem lt N x (Tr.node g c l y r).lendLeft.left)) := by simp only [Tr.rem, h, if_true]
theorem Tr.rem_nil {α : Type} {lt : α → α → Bool} {N : Nat} {x y : α} {g : Nat} {c : Bool} {l r : Tr α} (h : lt x y = false) (hn : (Tr.node g c l y r).up1.right = .nil) :
    Tr.rem lt (N + 1) x (.node g c l y r) = .nil := by simp [Tr.rem, h, hn, Tr.isNil]
theorem Tr.rem_right {α : Type} {lt : α → α → Bool} {N : Nat} {x y : α} {g : Nat} {c : Bool} {l r : Tr α} (h : lt x y = false) (hn : (Tr.node g c l y r).up1.right ≠ .nil) (h2 : lt ((Tr.node g c l y r).up1.lendRight.thing x) x = true) :
    Tr.rem lt (N + 1) x (.node g c l y r) = Tr.balance ((Tr.node g c l y r).up1.lendRight.setRight (Tr.rem lt N x (Tr.node g c l y r).up1.lendRight.right)) := by
  rw [← Tr.isNil_no] at hn
  simp only [Tr.rem, h, hn, h2, if_true, if_false, Bool.false_eq_true]
theorem Tr.rem_here {α : Type} {lt : α → α → Bool} {N : Nat} {x y : α} {g : Nat} {c : Bool} {l r : Tr α} (h : lt x y = false) (hn : (Tr.node g c l y r).up1.right ≠ .nil) (h2 : lt ((Tr.node g c l y r).up1.lendRight.thing x) x = false) :
    Tr.rem lt (N + 1) x (.node g c l y r) = Tr.balance (((Tr.node g c l y r).up1.lendRight.setRight (Tr.remL N (Tr.node g c l y r).up1.lendRight.right)).setThing ((Tr.node g c l y r).up1.lendRight.right.least ((Tr.node g c l y r).up1.lendRight.thing x))) := by
  rw [← Tr.isNil_no] at hn
  simp only [Tr.rem, h, hn, h2, if_false, Bool.false_eq_true]
theorem Has.len {α : Type} {A B : List α} {m : α} {t u : Tr α} (h : t.list = A ++ m :: B) (h' : u.list = A ++ B) : u.list.length ≤ t.list.length := by rw [h, h']; simp

set_option maxRecDepth 100000 in
set_option maxHeartbeats 8000000 in
theorem Rb.remove (th : Nat) (rt : Value) (n x : Int) (N : Nat) : ∀ (t : Tr Int) (w : World) (A : List Int) (m : Int) (B : List Int), t.size ≤ N → In w t → t.blocks.Nodup → t.list.length ≤ 900000 → Env w th rt n → Tr.Pre ltI x t → Tr.Has ltI x A m B → t.list = A ++ m :: B →
    Calls Try.prog 70 #[.pointer (some ⟨th, 0, none⟩), ptr t, .int .i64 x] w (Turned (Tr.rem ltI N x t) t.blocks w) := by
  induction N with
  | zero =>
    intro t w A m B hs _ _ _ _ hp _ _
    have := Tr.ne_of_Pre hp
    cases t with
    | nil => exact absurd rfl this
    | node g c l y r => simp only [Tr.size] at hs; omega
  | succ N ih =>
    intro t w As ms Bs hs hi hd hn he hp hh hli
    cases t with
    | nil => exact absurd rfl (Tr.ne_of_Pre hp)
    | node g c l y r =>
      have IH := hid ih
      have HI := hid (show In w.drew (.node g c l y r) from hi.drew)
      have HD := hid hd
      have HN := hid hn
      have HE := hid (he.below (Below.refl _ _).drew)
      have HP := hid hp
      have HH := hid hh
      have HLI := hid hli
      have HS := hid hs
      obtain ⟨_, _, t0, _⟩ := id he
      have e0 := t0.at0
      obtain ⟨⟨v, hvs, hc⟩, hl, hr⟩ := hi
      have c0 := hc.at0
      have c2 := hc.at2
      have c3 := hc.at3
      clear ih hd hn he hs hvs hc hl hr hp hh hli t0
      simp only [ptr_node]
      cases hlt : ltI x y with
      | true =>
        have HLT := hid hlt
        obtain ⟨hln, hrn, hpre, hlend, B', hl1, hl2⟩ := Tr.go_left HP.out HH.out HLI.out HLT.out
        have HG := hid (And.intro hln (And.intro hrn (And.intro hpre (And.intro hlend (And.intro hl1 hl2)))))
        have HEQ : Hid (Tr.rem ltI (N + 1) x (.node g c l y r) = Tr.balance ((Tr.node g c l y r).lendLeft.setLeft (Tr.rem ltI N x (Tr.node g c l y r).lendLeft.left))) := hid (Tr.rem_left hlt)
        have HSZ : Hid ((Tr.node g c l y r).lendLeft.left.size ≤ N) := hid (by
          have := Tr.size_left_lt _ (Tr.ne_nil_of_list (Tr.list_lendLeft (Tr.node g c l y r)) (by simp))
          rw [Tr.size_of_list (Tr.list_lendLeft (Tr.node g c l y r))] at this
          have := HS.out
          omega)
        have HNE := hid (Tr.ne_nil_of_list (Tr.list_lendLeft (Tr.node g c l y r)) (by simp))
        have HPM := hid (Tr.perm_lendLeft (Tr.node g c l y r))
        have HLL := hid (Tr.list_lendLeft (Tr.node g c l y r))
        clear hln hrn hpre hlend hl1 hl2 hlt c2 c3
        go_enter Try.func70, Try.ntmps70
        go_wp2_with fail
        go_still_tail 9, (by kernel_rfl)
        change wpList _ _ _ _ _ w.drew
        go_wp2_with fail
        refine (Law6.lessI x y _).mono ?_
        rintro e w1 ⟨rfl, rfl⟩
        rw [HLT.out]
        go_wp2_with fail
        refine (Rb.lendLeft g c _ r y th rt n _ HI.out.st HD.out HN.out HE.out HG.out.1 HG.out.2.1).mono ?_
        rintro e1 w1 ⟨rfl, hs1, hw1⟩
        have HE1 := hid (HE.out.turned HI.out.st hw1)
        have HW1 := hid hw1
        have HS1 := hid hs1
        clear hs1 hw1 e0 c0
        generalize (Tr.node g c l y r).lendLeft = T at *
        cases T with
        | nil => exact absurd rfl HNE.out
        | node g' c' l' y' r' =>
          obtain ⟨⟨A, m, k, hc⟩, hl, hr⟩ := id HS1.out
          have z2 := hc.at2
          have HC := hid (And.intro hc (And.intro hl hr))
          have HD1 := hid (HPM.out.nodup_iff.2 HD.out)
          have HN1 := hid (show l'.list.length + (r'.list.length + 1) ≤ 900000 from by
            have := HN.out; rw [← HLL.out] at this; simpa [Tr.list] using this)
          clear hc hl hr
          simp only [ptr_node]
          go_wp2_with fail
          obtain ⟨k', p1⟩ := HG.out.2.2.1
          have HP1 := hid (And.intro p1 HG.out.2.2.2.1)
          clear p1
          obtain ⟨q1, q2⟩ := HG.out.2.2.2.2
          have HHas : Hid (Tr.Has ltI x As ms B') := hid ⟨HH.out.low, fun b hb => HH.out.high b (by rw [q2]; simp [hb]), HH.out.mid⟩
          have HL1 := hid q1
          clear q1 q2
          refine (IH.out l' _ As ms B' HSZ.out HC.out.2.1 (nodup_node HD1.out).2.2.1 (by have := HN1.out; omega) HE1.out (Or.inl ⟨k', HP1.out.1, HP1.out.2⟩) HHas.out HL1.out).mono ?_
          rintro e2 w2 ⟨rfl, hi2, hw2⟩
          have hof := Tr.Of.rem ltI x N l'
          have hg : g' ∉ (Tr.rem ltI N x l').blocks := fun hm => (nodup_node HD1.out).1 (hof.2 _ hm)
          have HT := hid (left_turned HC.out.1 HC.out.2.1 HC.out.2.2 HE1.out HD1.out hi2 hw2 hg)
          have HND := hid (nodup_left (l' := Tr.rem ltI N x l') HD1.out (hof.1 (nodup_node HD1.out).2.2.1) (fun j hj => Or.inl (hof.2 j hj)))
          have HOF := hid hof
          have HLEN : Hid ((Tr.rem ltI N x l').list.length ≤ l'.list.length) := hid (Has.len HL1.out (Tr.rem_main ltI x N l' As ms B' HSZ.out (Or.inl ⟨k', HP1.out.1, HP1.out.2⟩) HHas.out HL1.out).1)
          clear hi2 hw2 hof hg z2
          have q2 := HT.out.1.at2
          have q3 := HT.out.1.fr2
          have HEQ2 : Hid (Tr.rem ltI (N + 1) x (.node g c l y r) = Tr.balance (.node g' c' (Tr.rem ltI N x l') y' r')) := HEQ
          clear HEQ
          generalize Tr.rem ltI N x l' = L' at *
          obtain ⟨u, hu⟩ := ptr_form L'
          have HU := hid hu
          rw [hu]
          clear hu
          go_wp2_with fail
          have HW : Hid (∃ W, W = w2.setCell ⟨g', 2, none⟩ (.pointer u) ∧ St W (.node g' c' L' y' r') ∧ Env W th rt n ∧ Chg (g' :: l'.blocks) w1 W) := hid ⟨_, rfl, by rw [← HU.out]; exact HT.out.2.1, by rw [← HU.out]; exact HT.out.2.2.1, by rw [← HU.out]; exact HT.out.2.2.2⟩
          obtain ⟨W, hW, HF⟩ := HW
          rw [← hW]
          clear hW q2 q3
          have HF := hid HF
          refine (Rb.balance g' c' L' r' y' th rt n W HF.out.1 HND.out (by have := HN1.out; have := HLEN.out; simp only [Tr.list, List.length_append, List.length_cons]; omega) HF.out.2.1).mono ?_
          rintro e3 w3 ⟨rfl, hi3, hw3⟩
          have HI3 := hid hi3
          have HW3 := hid hw3
          clear hi3 hw3
          go_wp2_with fail
          go_ret
          refine ⟨by rw [HEQ2.out]; rfl, by rw [HEQ2.out]; exact HI3.out, (((Chg.below (Below.refl _ _).drew).trans HW1.out (fun j hj => Or.inl hj)).trans HF.out.2.2 (fun j hj => Or.inl (HPM.out.mem_iff.1 ?_))).trans HW3.out (fun j hj => Or.inl (HPM.out.mem_iff.1 ?_))⟩
          · rcases List.mem_cons.1 hj with rfl | h1
            · simp [Tr.blocks]
            · simp [Tr.blocks, h1]
          · simp only [Tr.blocks, List.mem_cons, List.mem_append] at hj ⊢
            exact hj.imp id (Or.imp (HOF.out.2 j) id)
      | false =>
        have HLT := hid hlt
        have HG := hid (Tr.go_right HP.out HH.out HLI.out HLT.out)
        have HPU := hid (Tr.perm_up1 (Tr.node g c l y r))
        have HLU := hid (Tr.list_up1 (Tr.node g c l y r))
        have HNEU := hid (Tr.ne_nil_of_list (Tr.list_up1 (Tr.node g c l y r)) (by simp))
        have HEQn : Hid ((Tr.node g c l y r).up1.right = .nil → Tr.rem ltI (N + 1) x (.node g c l y r) = .nil) := hid (Tr.rem_nil hlt)
        have HEQr := hid (fun h1 h2 => Tr.rem_right (lt := ltI) (N := N) (x := x) (y := y) (g := g) (c := c) (l := l) (r := r) hlt h1 h2)
        have HEQh := hid (fun h1 h2 => Tr.rem_here (lt := ltI) (N := N) (x := x) (y := y) (g := g) (c := c) (l := l) (r := r) hlt h1 h2)
        clear hlt
        cases hlr : l.red with
        | false =>
          have HLR := hid hlr
          rw [Tr.up1_same hlr] at HG HPU HLU HNEU HEQn HEQr HEQh
          clear hlr
          go_enter Try.func70, Try.ntmps70
          go_wp2_with fail
          go_still_tail 9, (by kernel_rfl)
          change wpList _ _ _ _ _ w.drew
          go_wp2_with fail
          refine (Law6.lessI x y _).mono ?_
          rintro e w1 ⟨rfl, rfl⟩
          rw [HLT.out]
          go_wp2_with fail
          refine (Rb.isRed l _ HI.out.2.1.st).mono ?_
          rintro e w1 ⟨rfl, rfl⟩
          rw [HLR.out]
          clear e0 c0 c2 c3
          have HSU := hid HI.out.st
          have HEU := HE
          have HLU := hid (show (Tr.node g c l y r).list = (Tr.node g c l y r).list from rfl)
          have HPU := hid (show (Tr.node g c l y r).blocks.Perm (Tr.node g c l y r).blocks from List.Perm.refl _)
          have HWU : Hid (Chg (Tr.node g c l y r).blocks w w.drew) := hid (Chg.below (Below.refl _ _).drew)
          have HEX : Hid (∃ wu gu cu lu yu ru, wu = w.drew ∧ gu = g ∧ cu = c ∧ lu = l ∧ yu = y ∧ ru = r) := hid ⟨_, _, _, _, _, _, rfl, rfl, rfl, rfl, rfl, rfl⟩
          obtain ⟨⟨A, m, k, hc⟩, hlu, hru⟩ := id HSU.out
          have z3 := hc.at3
          clear hc hlu hru
          have HDU := hid (HPU.out.nodup_iff.2 HD.out)
          have HNU := hid (show (Tr.node g c l y r).list.length ≤ 900000 from by have := HN.out; rw [← HLU.out] at this; exact this)
          rcases HG.out with ⟨hrn, _⟩ | hgo
          · simp only [Tr.right_node] at hrn
            have HRN := hid hrn
            subst hrn
            simp only [ptr_nil] at z3
            go_wp2_with fail
            go_ret
            rw [HEQn.out rfl]
            exact ⟨rfl, trivial, HWU.out⟩
          · have HGO := hid hgo
            clear hgo HG HEQn
            have HRN := hid HGO.out.1
            simp only [Tr.right_node] at HRN
            have HSZ : Hid ((Tr.node g c l y r).lendRight.right.size ≤ N) := hid (by
              have := Tr.size_right_lt _ HGO.out.2.2.1
              rw [Tr.size_of_list (Tr.list_lendRight (Tr.node g c l y r)), Tr.size_of_list HLU.out] at this
              have := HS.out
              omega)
            have HPM := hid ((Tr.perm_lendRight (Tr.node g c l y r)).trans HPU.out)
            have HLL := hid ((Tr.list_lendRight (Tr.node g c l y r)).trans HLU.out)
            obtain ⟨gr, cr, lr, xr, rr, hre⟩ : ∃ gl cl ll xl rl, r = .node gl cl ll xl rl := by
              cases hru : r with
              | nil => exact absurd hru HRN.out
              | node gl cl ll xl rl => exact ⟨_, _, _, _, _, rfl⟩
            have z4 : w.drew.cell? ⟨g, 3, none⟩ = some (.pointer (some ⟨gr, 0, none⟩)) := by rw [z3, hre]; rfl
            have HRE := hid hre
            clear hre z3
            go_wp2_with fail
            refine (Rb.lendRight g c l r y th rt n _ HSU.out HDU.out HNU.out HEU.out HRN.out HGO.out.2.1).mono ?_
            rintro e1 w1 ⟨rfl, hs1, hw1⟩
            have HE1 := hid (HEU.out.turned HSU.out hw1)
            have HW1 := hid (HWU.out.trans hw1 (fun j hj => Or.inl (HPU.out.mem_iff.1 hj)))
            have HS1 := hid hs1
            clear hs1 hw1 z4
            generalize (Tr.node g c l y r).lendRight = T at *
            cases T with
            | nil => exact absurd rfl HGO.out.2.2.1
            | node g' c' l' y' r' =>
              obtain ⟨⟨A, m, k, hc⟩, hl, hr⟩ := id HS1.out
              have z0 := hc.at0
              have z3 := hc.at3
              have HC := hid (And.intro hc.drew (And.intro hl.drew hr.drew))
              have HE1d := hid (HE1.out.below (Below.refl _ _).drew)
              obtain ⟨_, _, t0, _⟩ := id HE1.out
              have e0 := t0.at0
              have HD1 := hid (HPM.out.nodup_iff.2 HD.out)
              have HN1 := hid (show l'.list.length + (r'.list.length + 1) ≤ 900000 from by
                have := HN.out; rw [← HLL.out] at this; simpa [Tr.list] using this)
              clear hc hl hr t0
              simp only [ptr_node]
              simp only [Tr.right_node, Tr.left_node, Tr.thing_node] at HGO HEQr HEQh HSZ
              go_wp2_with fail
              go_still_tail 9, (by kernel_rfl)
              change wpList _ _ _ _ _ w1.drew
              cases hx : ltI y' x with
              | true =>
                obtain ⟨hpr, A', q1, q2⟩ := HGO.out.2.2.2.1 hx
                have HHas : Hid (Tr.Has ltI x A' ms Bs) := hid ⟨fun a ha => HH.out.low a (by rw [q2]; simp [ha]), HH.out.high, HH.out.mid⟩
                have HPR : Hid (Tr.Pre ltI x r') := hid (by
                  rcases hpr with h1 | h1
                  · exact Or.inl h1
                  · exact Or.inr (Or.inl h1))
                have HL1 := hid q1
                have HEQ := hid (HEQr.out HGO.out.1 hx)
                have HX := hid hx
                clear q1 q2 hx hpr
                go_wp2_with fail
                refine (Law6.lessI y' x _).mono ?_
                rintro e w2 ⟨rfl, rfl⟩
                rw [HX.out]
                clear z0 e0
                go_wp2_with fail
                refine (IH.out r' _ A' ms Bs HSZ.out HC.out.2.2 (nodup_node HD1.out).2.2.2.1 (by have := HN1.out; omega) HE1d.out HPR.out HHas.out HL1.out).mono ?_
                rintro e2 w2 ⟨rfl, hi2, hw2⟩
                have hof := Tr.Of.rem ltI x N r'
                have hg : g' ∉ (Tr.rem ltI N x r').blocks := fun hm => (nodup_node HD1.out).2.1 (hof.2 _ hm)
                have HT := hid (right_turned HC.out.1 HC.out.2.1 HC.out.2.2 HE1d.out HD1.out hi2 hw2 hg)
                have HND := hid (nodup_right (r' := Tr.rem ltI N x r') HD1.out (hof.1 (nodup_node HD1.out).2.2.2.1) (fun j hj => Or.inl (hof.2 j hj)))
                have HOF := hid hof
                have HLEN : Hid ((Tr.rem ltI N x r').list.length ≤ r'.list.length) := hid (Has.len HL1.out (Tr.rem_main ltI x N r' A' ms Bs HSZ.out HPR.out HHas.out HL1.out).1)
                clear hi2 hw2 hof hg z3
                have q2 := HT.out.1.at3
                have q3 := HT.out.1.fr3
                have HEQ2 : Hid (Tr.rem ltI (N + 1) x (.node g c l y r) = Tr.balance (.node g' c' l' y' (Tr.rem ltI N x r'))) := HEQ
                clear HEQ HEQr HEQh HGO
                generalize Tr.rem ltI N x r' = R' at *
                obtain ⟨u, hu⟩ := ptr_form R'
                have HU := hid hu
                rw [hu]
                clear hu
                go_wp2_with fail
                have HW : Hid (∃ W, W = w2.setCell ⟨g', 3, none⟩ (.pointer u) ∧ St W (.node g' c' l' y' R') ∧ Env W th rt n ∧ Chg (g' :: r'.blocks) w1.drew W) := hid ⟨_, rfl, by rw [← HU.out]; exact HT.out.2.1, by rw [← HU.out]; exact HT.out.2.2.1, by rw [← HU.out]; exact HT.out.2.2.2⟩
                obtain ⟨W, hW, HF⟩ := HW
                rw [← hW]
                clear hW q2 q3
                have HF := hid HF
                refine (Rb.balance g' c' l' R' y' th rt n W HF.out.1 HND.out (by have := HN1.out; have := HLEN.out; simp only [Tr.list, List.length_append, List.length_cons]; omega) HF.out.2.1).mono ?_
                rintro e3 w3 ⟨rfl, hi3, hw3⟩
                have HI3 := hid hi3
                have HW3 := hid hw3
                clear hi3 hw3
                go_wp2_with fail
                go_ret
                refine ⟨by rw [HEQ2.out]; rfl, by rw [HEQ2.out]; exact HI3.out, ((HW1.out.trans (G := []) (Chg.below (Below.refl _ _).drew) (by simp)).trans HF.out.2.2 (fun j hj => Or.inl (HPM.out.mem_iff.1 ?_))).trans HW3.out (fun j hj => Or.inl (HPM.out.mem_iff.1 ?_))⟩
                · rcases List.mem_cons.1 hj with rfl | h1
                  · simp [Tr.blocks]
                  · simp [Tr.blocks, h1]
                · simp only [Tr.blocks, List.mem_cons, List.mem_append] at hj ⊢
                  exact hj.imp id (Or.imp id (HOF.out.2 j))
              | false =>
                obtain ⟨⟨k', k1, k2⟩, q1, q2⟩ := HGO.out.2.2.2.2 hx
                have HK := hid (And.intro k1 k2)
                have HEQ := hid (HEQh.out HGO.out.1 hx)
                have HX := hid hx
                clear q1 q2 hx k1 k2
                have HNR : Hid (r' ≠ .nil) := hid (by intro e; have := HK.out.2; rw [e] at this; simp [Tr.lend] at this)
                go_wp2_with fail
                refine (Law6.lessI y' x _).mono ?_
                rintro e w2 ⟨rfl, rfl⟩
                rw [HX.out]
                clear e0
                go_wp2_with fail
                refine (Rb.least r' _ HC.out.2.2 HNR.out y').mono ?_
                rintro e w2 ⟨rfl, rfl⟩
                have HX2 := hid (HC.out.1.set 0 (by simp) (.int .i64 (r'.least y')))
                have hnl : Nl w1.drew g' := ⟨_, _, _, HC.out.1.at1⟩
                have HC2 : Hid (∃ W, W = w1.drew.setCell ⟨g', 0, none⟩ (.int .i64 (r'.least y')) ∧ Cs W g' [.int .i64 (r'.least y'), .slice A m k, ptr l', ptr r', .bool c'] ∧ In W l' ∧ In W r' ∧ Env W th rt n ∧ Chg [g'] w1.drew W) := hid (by
                  refine ⟨_, rfl, HX2.out, HC.out.2.1.far hnl (nodup_node HD1.out).1 _ _, HC.out.2.2.far hnl (nodup_node HD1.out).2.1 _ _, ?_, ?_⟩
                  · exact HE1d.out.chg (F := [g']) ((Chg.refl _ _).set (Or.inl (by simp)) _ _) (fun j hj => by simp at hj; subst hj; exact hnl)
                  · exact (Chg.refl _ _).set (Or.inl (by simp)) _ _)
                have z0f := HC.out.1.fr0
                have z0' := HC.out.1.at0
                clear hnl z0
                go_wp2_with fail
                obtain ⟨W0, hW0, HC2⟩ := HC2
                try rw [show (w1.setCell ⟨g', 0, none⟩ (.int .i64 (r'.least y'))).drew = W0 from hW0.symm]
                try rw [show w1.drew.setCell ⟨g', 0, none⟩ (.int .i64 (r'.least y')) = W0 from hW0.symm]
                have HC2 := hid HC2
                clear hW0 z0' z0f z3
                have z3 := HC2.out.1.at3
                go_wp2_with fail
                refine (Rb.removeLeast th rt n N r' _ k' HSZ.out HC2.out.2.2.1 (nodup_node HD1.out).2.2.2.1 (by have := HN1.out; omega) HC2.out.2.2.2.1 HK.out.1 HK.out.2).mono ?_
                rintro e2 w2 ⟨rfl, hi2, hw2⟩
                have hof := Tr.Of.remL N r'
                have hg : g' ∉ (Tr.remL N r').blocks := fun hm => (nodup_node HD1.out).2.1 (hof.2 _ hm)
                have HT := hid (right_turned (y := r'.least y') HC2.out.1 HC2.out.2.1 HC2.out.2.2.1 HC2.out.2.2.2.1 HD1.out hi2 hw2 hg)
                have HND := hid (nodup_right (r' := Tr.remL N r') HD1.out (hof.1 (nodup_node HD1.out).2.2.2.1) (fun j hj => Or.inl (hof.2 j hj)))
                have HOF := hid hof
                have HLEN : Hid ((Tr.remL N r').list.length ≤ r'.list.length) := hid (by
                  rw [((Tr.remL_main N r' HSZ.out) k' HK.out.1 HK.out.2).2.2]; simp)
                clear hi2 hw2 hof hg z3
                have q2 := HT.out.1.at3
                have q3 := HT.out.1.fr3
                have HEQ2 : Hid (Tr.rem ltI (N + 1) x (.node g c l y r) = Tr.balance (.node g' c' l' (r'.least y') (Tr.remL N r'))) := HEQ
                clear HEQ HEQr HEQh HGO
                generalize Tr.remL N r' = R' at *
                obtain ⟨u, hu⟩ := ptr_form R'
                have HU := hid hu
                rw [hu]
                clear hu
                go_wp2_with fail
                have HW : Hid (∃ W, W = w2.setCell ⟨g', 3, none⟩ (.pointer u) ∧ St W (.node g' c' l' (r'.least y') R') ∧ Env W th rt n ∧ Chg (g' :: r'.blocks) W0 W) := hid ⟨_, rfl, by rw [← HU.out]; exact HT.out.2.1, by rw [← HU.out]; exact HT.out.2.2.1, by rw [← HU.out]; exact HT.out.2.2.2⟩
                obtain ⟨W, hW, HF⟩ := HW
                rw [← hW]
                clear hW q2 q3
                have HF := hid HF
                refine (Rb.balance g' c' l' R' (r'.least y') th rt n W HF.out.1 HND.out (by have := HN1.out; have := HLEN.out; simp only [Tr.list, List.length_append, List.length_cons]; omega) HF.out.2.1).mono ?_
                rintro e3 w3 ⟨rfl, hi3, hw3⟩
                have HI3 := hid hi3
                have HW3 := hid hw3
                clear hi3 hw3
                go_wp2_with fail
                go_ret
                refine ⟨by rw [HEQ2.out]; rfl, by rw [HEQ2.out]; exact HI3.out, (((HW1.out.trans (G := []) (Chg.below (Below.refl _ _).drew) (by simp)).trans HC2.out.2.2.2.2 (fun j hj => Or.inl (HPM.out.mem_iff.1 (by simp at hj; subst hj; simp [Tr.blocks])))).trans HF.out.2.2 (fun j hj => Or.inl (HPM.out.mem_iff.1 ?_))).trans HW3.out (fun j hj => Or.inl (HPM.out.mem_iff.1 ?_))⟩
                · rcases List.mem_cons.1 hj with rfl | h1
                  · simp [Tr.blocks]
                  · simp [Tr.blocks, h1]
                · simp only [Tr.blocks, List.mem_cons, List.mem_append] at hj ⊢
                  exact hj.imp id (Or.imp id (HOF.out.2 j))
        | true =>
          have HLR := hid hlr
          cases l with
          | nil => simp [Tr.red] at hlr
          | node h d a z b =>
            simp only [Tr.red] at hlr
            subst hlr
            rw [Tr.up1_red HLR.out] at HG HPU HLU HNEU HEQn HEQr HEQh
            simp only [Tr.turnRight] at HG HPU HLU HNEU HEQn HEQr HEQh
            simp only [ptr_node] at c2
            go_enter Try.func70, Try.ntmps70
            go_wp2_with fail
            go_still_tail 9, (by kernel_rfl)
            change wpList _ _ _ _ _ w.drew
            go_wp2_with fail
            refine (Law6.lessI x y _).mono ?_
            rintro e w1 ⟨rfl, rfl⟩
            rw [HLT.out]
            go_wp2_with fail
            refine (Rb.isRed (.node h true a z b) _ HI.out.2.1.st).mono ?_
            rintro e w1 ⟨rfl, rfl⟩
            simp only [Tr.red]
            go_wp2_with fail
            refine (Rb.turnRight th g h c true a b r y z rt n _ HI.out.st HD.out HN.out HE.out).mono ?_
            rintro e wu ⟨rfl, hsu, hwu⟩
            have HSU := hid hsu
            have HEU := hid (HE.out.turned HI.out.st hwu)
            have HWU := hid ((Chg.below (Below.refl _ _).drew).trans hwu (fun j hj => Or.inl hj))
            clear hsu hwu e0 c0 c2 c3
            obtain ⟨⟨A, m, k, hc⟩, hlu, hru⟩ := id HSU.out
            have z3 := hc.at3
            clear hc hlu hru
            have HDU := hid (HPU.out.nodup_iff.2 HD.out)
            have HNU := hid (show (Tr.node h c a z (Tr.node g true b y r)).list.length ≤ 900000 from by have := HN.out; rw [← HLU.out] at this; exact this)
            rcases HG.out with ⟨hrn, _⟩ | hgo
            · simp only [Tr.right_node] at hrn
              cases hrn
            · have HGO := hid hgo
              clear hgo HG HEQn
              have HRN := hid HGO.out.1
              simp only [Tr.right_node] at HRN
              have HSZ : Hid ((Tr.node h c a z (Tr.node g true b y r)).lendRight.right.size ≤ N) := hid (by
                have := Tr.size_right_lt _ HGO.out.2.2.1
                rw [Tr.size_of_list (Tr.list_lendRight (Tr.node h c a z (Tr.node g true b y r))), Tr.size_of_list HLU.out] at this
                have := HS.out
                omega)
              have HPM := hid ((Tr.perm_lendRight (Tr.node h c a z (Tr.node g true b y r))).trans HPU.out)
              have HLL := hid ((Tr.list_lendRight (Tr.node h c a z (Tr.node g true b y r))).trans HLU.out)
              have z4 := z3
              simp only [ptr_node] at z4
              clear z3
              go_wp2_with fail
              refine (Rb.lendRight h c a (Tr.node g true b y r) z th rt n _ HSU.out HDU.out HNU.out HEU.out HRN.out HGO.out.2.1).mono ?_
              rintro e1 w1 ⟨rfl, hs1, hw1⟩
              have HE1 := hid (HEU.out.turned HSU.out hw1)
              have HW1 := hid (HWU.out.trans hw1 (fun j hj => Or.inl (HPU.out.mem_iff.1 hj)))
              have HS1 := hid hs1
              clear hs1 hw1 z4
              generalize (Tr.node h c a z (Tr.node g true b y r)).lendRight = T at *
              cases T with
              | nil => exact absurd rfl HGO.out.2.2.1
              | node g' c' l' y' r' =>
                obtain ⟨⟨A, m, k, hc⟩, hl, hr⟩ := id HS1.out
                have z0 := hc.at0
                have z3 := hc.at3
                have HC := hid (And.intro hc.drew (And.intro hl.drew hr.drew))
                have HE1d := hid (HE1.out.below (Below.refl _ _).drew)
                obtain ⟨_, _, t0, _⟩ := id HE1.out
                have e0 := t0.at0
                have HD1 := hid (HPM.out.nodup_iff.2 HD.out)
                have HN1 := hid (show l'.list.length + (r'.list.length + 1) ≤ 900000 from by
                  have := HN.out; rw [← HLL.out] at this; simpa [Tr.list] using this)
                clear hc hl hr t0
                simp only [ptr_node]
                simp only [Tr.right_node, Tr.left_node, Tr.thing_node] at HGO HEQr HEQh HSZ
                go_wp2_with fail
                go_still_tail 9, (by kernel_rfl)
                change wpList _ _ _ _ _ w1.drew
                cases hx : ltI y' x with
                | true =>
                  obtain ⟨hpr, A', q1, q2⟩ := HGO.out.2.2.2.1 hx
                  have HHas : Hid (Tr.Has ltI x A' ms Bs) := hid ⟨fun a ha => HH.out.low a (by rw [q2]; simp [ha]), HH.out.high, HH.out.mid⟩
                  have HPR : Hid (Tr.Pre ltI x r') := hid (by
                    rcases hpr with h1 | h1
                    · exact Or.inl h1
                    · exact Or.inr (Or.inl h1))
                  have HL1 := hid q1
                  have HEQ := hid (HEQr.out HGO.out.1 hx)
                  have HX := hid hx
                  clear q1 q2 hx hpr
                  go_wp2_with fail
                  refine (Law6.lessI y' x _).mono ?_
                  rintro e w2 ⟨rfl, rfl⟩
                  rw [HX.out]
                  clear z0 e0
                  go_wp2_with fail
                  refine (IH.out r' _ A' ms Bs HSZ.out HC.out.2.2 (nodup_node HD1.out).2.2.2.1 (by have := HN1.out; omega) HE1d.out HPR.out HHas.out HL1.out).mono ?_
                  rintro e2 w2 ⟨rfl, hi2, hw2⟩
                  have hof := Tr.Of.rem ltI x N r'
                  have hg : g' ∉ (Tr.rem ltI N x r').blocks := fun hm => (nodup_node HD1.out).2.1 (hof.2 _ hm)
                  have HT := hid (right_turned HC.out.1 HC.out.2.1 HC.out.2.2 HE1d.out HD1.out hi2 hw2 hg)
                  have HND := hid (nodup_right (r' := Tr.rem ltI N x r') HD1.out (hof.1 (nodup_node HD1.out).2.2.2.1) (fun j hj => Or.inl (hof.2 j hj)))
                  have HOF := hid hof
                  have HLEN : Hid ((Tr.rem ltI N x r').list.length ≤ r'.list.length) := hid (Has.len HL1.out (Tr.rem_main ltI x N r' A' ms Bs HSZ.out HPR.out HHas.out HL1.out).1)
                  clear hi2 hw2 hof hg z3
                  have q2 := HT.out.1.at3
                  have q3 := HT.out.1.fr3
                  have HEQ2 : Hid (Tr.rem ltI (N + 1) x (.node g c (.node h true a z b) y r) = Tr.balance (.node g' c' l' y' (Tr.rem ltI N x r'))) := HEQ
                  clear HEQ HEQr HEQh HGO
                  generalize Tr.rem ltI N x r' = R' at *
                  obtain ⟨u, hu⟩ := ptr_form R'
                  have HU := hid hu
                  rw [hu]
                  clear hu
                  go_wp2_with fail
                  have HW : Hid (∃ W, W = w2.setCell ⟨g', 3, none⟩ (.pointer u) ∧ St W (.node g' c' l' y' R') ∧ Env W th rt n ∧ Chg (g' :: r'.blocks) w1.drew W) := hid ⟨_, rfl, by rw [← HU.out]; exact HT.out.2.1, by rw [← HU.out]; exact HT.out.2.2.1, by rw [← HU.out]; exact HT.out.2.2.2⟩
                  obtain ⟨W, hW, HF⟩ := HW
                  rw [← hW]
                  clear hW q2 q3
                  have HF := hid HF
                  refine (Rb.balance g' c' l' R' y' th rt n W HF.out.1 HND.out (by have := HN1.out; have := HLEN.out; simp only [Tr.list, List.length_append, List.length_cons]; omega) HF.out.2.1).mono ?_
                  rintro e3 w3 ⟨rfl, hi3, hw3⟩
                  have HI3 := hid hi3
                  have HW3 := hid hw3
                  clear hi3 hw3
                  go_wp2_with fail
                  go_ret
                  refine ⟨by rw [HEQ2.out]; rfl, by rw [HEQ2.out]; exact HI3.out, ((HW1.out.trans (G := []) (Chg.below (Below.refl _ _).drew) (by simp)).trans HF.out.2.2 (fun j hj => Or.inl (HPM.out.mem_iff.1 ?_))).trans HW3.out (fun j hj => Or.inl (HPM.out.mem_iff.1 ?_))⟩
                  · rcases List.mem_cons.1 hj with rfl | h1
                    · simp [Tr.blocks]
                    · simp [Tr.blocks, h1]
                  · simp only [Tr.blocks, List.mem_cons, List.mem_append] at hj ⊢
                    exact hj.imp id (Or.imp id (HOF.out.2 j))
                | false =>
                  obtain ⟨⟨k', k1, k2⟩, q1, q2⟩ := HGO.out.2.2.2.2 hx
                  have HK := hid (And.intro k1 k2)
                  have HEQ := hid (HEQh.out HGO.out.1 hx)
                  have HX := hid hx
                  clear q1 q2 hx k1 k2
                  have HNR : Hid (r' ≠ .nil) := hid (by intro e; have := HK.out.2; rw [e] at this; simp [Tr.lend] at this)
                  go_wp2_with fail
                  refine (Law6.lessI y' x _).mono ?_
                  rintro e w2 ⟨rfl, rfl⟩
                  rw [HX.out]
                  clear e0
                  go_wp2_with fail
                  refine (Rb.least r' _ HC.out.2.2 HNR.out y').mono ?_
                  rintro e w2 ⟨rfl, rfl⟩
                  have HX2 := hid (HC.out.1.set 0 (by simp) (.int .i64 (r'.least y')))
                  have hnl : Nl w1.drew g' := ⟨_, _, _, HC.out.1.at1⟩
                  have HC2 : Hid (∃ W, W = w1.drew.setCell ⟨g', 0, none⟩ (.int .i64 (r'.least y')) ∧ Cs W g' [.int .i64 (r'.least y'), .slice A m k, ptr l', ptr r', .bool c'] ∧ In W l' ∧ In W r' ∧ Env W th rt n ∧ Chg [g'] w1.drew W) := hid (by
                    refine ⟨_, rfl, HX2.out, HC.out.2.1.far hnl (nodup_node HD1.out).1 _ _, HC.out.2.2.far hnl (nodup_node HD1.out).2.1 _ _, ?_, ?_⟩
                    · exact HE1d.out.chg (F := [g']) ((Chg.refl _ _).set (Or.inl (by simp)) _ _) (fun j hj => by simp at hj; subst hj; exact hnl)
                    · exact (Chg.refl _ _).set (Or.inl (by simp)) _ _)
                  have z0f := HC.out.1.fr0
                  have z0' := HC.out.1.at0
                  clear hnl z0
                  go_wp2_with fail
                  obtain ⟨W0, hW0, HC2⟩ := HC2
                  try rw [show (w1.setCell ⟨g', 0, none⟩ (.int .i64 (r'.least y'))).drew = W0 from hW0.symm]
                  try rw [show w1.drew.setCell ⟨g', 0, none⟩ (.int .i64 (r'.least y')) = W0 from hW0.symm]
                  have HC2 := hid HC2
                  clear hW0 z0' z0f z3
                  have z3 := HC2.out.1.at3
                  go_wp2_with fail
                  refine (Rb.removeLeast th rt n N r' _ k' HSZ.out HC2.out.2.2.1 (nodup_node HD1.out).2.2.2.1 (by have := HN1.out; omega) HC2.out.2.2.2.1 HK.out.1 HK.out.2).mono ?_
                  rintro e2 w2 ⟨rfl, hi2, hw2⟩
                  have hof := Tr.Of.remL N r'
                  have hg : g' ∉ (Tr.remL N r').blocks := fun hm => (nodup_node HD1.out).2.1 (hof.2 _ hm)
                  have HT := hid (right_turned (y := r'.least y') HC2.out.1 HC2.out.2.1 HC2.out.2.2.1 HC2.out.2.2.2.1 HD1.out hi2 hw2 hg)
                  have HND := hid (nodup_right (r' := Tr.remL N r') HD1.out (hof.1 (nodup_node HD1.out).2.2.2.1) (fun j hj => Or.inl (hof.2 j hj)))
                  have HOF := hid hof
                  have HLEN : Hid ((Tr.remL N r').list.length ≤ r'.list.length) := hid (by
                    rw [((Tr.remL_main N r' HSZ.out) k' HK.out.1 HK.out.2).2.2]; simp)
                  clear hi2 hw2 hof hg z3
                  have q2 := HT.out.1.at3
                  have q3 := HT.out.1.fr3
                  have HEQ2 : Hid (Tr.rem ltI (N + 1) x (.node g c (.node h true a z b) y r) = Tr.balance (.node g' c' l' (r'.least y') (Tr.remL N r'))) := HEQ
                  clear HEQ HEQr HEQh HGO
                  generalize Tr.remL N r' = R' at *
                  obtain ⟨u, hu⟩ := ptr_form R'
                  have HU := hid hu
                  rw [hu]
                  clear hu
                  go_wp2_with fail
                  have HW : Hid (∃ W, W = w2.setCell ⟨g', 3, none⟩ (.pointer u) ∧ St W (.node g' c' l' (r'.least y') R') ∧ Env W th rt n ∧ Chg (g' :: r'.blocks) W0 W) := hid ⟨_, rfl, by rw [← HU.out]; exact HT.out.2.1, by rw [← HU.out]; exact HT.out.2.2.1, by rw [← HU.out]; exact HT.out.2.2.2⟩
                  obtain ⟨W, hW, HF⟩ := HW
                  rw [← hW]
                  clear hW q2 q3
                  have HF := hid HF
                  refine (Rb.balance g' c' l' R' (r'.least y') th rt n W HF.out.1 HND.out (by have := HN1.out; have := HLEN.out; simp only [Tr.list, List.length_append, List.length_cons]; omega) HF.out.2.1).mono ?_
                  rintro e3 w3 ⟨rfl, hi3, hw3⟩
                  have HI3 := hid hi3
                  have HW3 := hid hw3
                  clear hi3 hw3
                  go_wp2_with fail
                  go_ret
                  refine ⟨by rw [HEQ2.out]; rfl, by rw [HEQ2.out]; exact HI3.out, (((HW1.out.trans (G := []) (Chg.below (Below.refl _ _).drew) (by simp)).trans HC2.out.2.2.2.2 (fun j hj => Or.inl (HPM.out.mem_iff.1 (by simp at hj; subst hj; simp [Tr.blocks])))).trans HF.out.2.2 (fun j hj => Or.inl (HPM.out.mem_iff.1 ?_))).trans HW3.out (fun j hj => Or.inl (HPM.out.mem_iff.1 ?_))⟩
                  · rcases List.mem_cons.1 hj with rfl | h1
                    · simp [Tr.blocks]
                    · simp [Tr.blocks, h1]
                  · simp only [Tr.blocks, List.mem_cons, List.mem_append] at hj ⊢
                    exact hj.imp id (Or.imp id (HOF.out.2 j))

end Go.Proofs.Ytcnmobehamgmbaa

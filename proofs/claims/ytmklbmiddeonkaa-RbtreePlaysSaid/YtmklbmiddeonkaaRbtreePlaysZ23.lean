/- Texts of RbtreePlays's proof, together. -/
import Derived.Test.YtmklbmiddeonkaaRbtreePlaysZ22
namespace Go.Proofs.Ytmklbmiddeonkaa
/- The tree of numbers: the chapter's example. -/
section
open Go.RowKit

set_option maxRecDepth 100000 in
set_option maxHeartbeats 2000000 in
theorem Law6.awake (w : World) : Calls Try.prog 25 #[] w (Ans (.bool true) w) := by
  go_enter Try.func25, Try.ntmps25
  go_wp2_with fail
  refine (Law6.new _).mono ?_
  rintro e w1 ⟨th, rfl, hth, ht1, hb1⟩
  have HTH := hid hth
  have HT1 := hid ht1
  have HB1 := hid hb1
  clear hth ht1 hb1
  go_wp2_with fail
  refine (Rb.insert th .nil 3 _ HT1.out (by simp [Tr.list]) rfl).mono ?_
  rintro e w2 ⟨k1, hk1, rfl, ht2, hc2⟩
  have HT2 := hid (show TreeAt w2 th (.node k1 false .nil 3 .nil) from ht2)
  have HC2 := hid hc2
  have HK1 := hid hk1
  clear hk1 ht2 hc2
  go_wp2_with fail
  refine (Rb.insert th _ 1 _ HT2.out (by simp [Tr.list]) rfl).mono ?_
  rintro e w3 ⟨k2, hk2, rfl, ht3, hc3⟩
  have HT3 := hid (show TreeAt w3 th (.node k1 false (.node k2 true .nil 1 .nil) 3 .nil) from ht3)
  have HC3 := hid hc3
  have HK2 := hid hk2
  clear hk2 ht3 hc3
  go_wp2_with fail
  refine (Rb.insert th _ 2 _ HT3.out (by simp [Tr.list]) rfl).mono ?_
  rintro e w4 ⟨k3, hk3, rfl, ht4, hc4⟩
  have HT4 := hid (show TreeAt w4 th (.node k3 false (.node k2 false .nil 1 .nil) 2 (.node k1 false .nil 3 .nil)) from ht4)
  have HC4 := hid hc4
  have HK3 := hid hk3
  clear hk3 ht4 hc4
  have HB4 : Hid (Below w.heap.size w w4) := hid (by
    have s1 := HB1.out.size
    have s2 := HC2.out.size
    have s3 := HC3.out.size
    have k1 := HK1.out
    have k2 := HK2.out
    have h0 := HTH.out
    refine ((HB1.out.trans (HC2.out.toBelow s1 ?_)).trans (HC3.out.toBelow (by omega) ?_)).trans (HC4.out.toBelow (by omega) ?_)
    · intro g hg; simp [Tr.blocks] at hg; omega
    · intro g hg; simp [Tr.blocks] at hg; omega
    · intro g hg; simp [Tr.blocks] at hg; omega)
  go_wp2_with fail
  refine (Rb.all th _ _ HT4.out (by simp [Tr.list])).mono ?_
  rintro e w5 ⟨A, n, c, rfl, ho, hb5, _, _⟩
  have HO := hid ho
  have HB5 := hid hb5
  clear ho hb5
  go_wp2_with fail
  refine (Sls.equal _ _ _ _ _ _ [1, 2, 3] [1, 2, 3] _ (Own.rdi (zs := [1, 2, 3]) (HO.out.alloc _)) (RdU.new3 .i64 w5 3 1 2 3) (by have := HO.out.len; simp [Tr.list] at this; omega) (by omega)).mono ?_
  rintro e w6 ⟨rfl, hb6⟩
  have HB6 := hid hb6
  clear hb6
  go_wp2_with fail
  refine (Rb.depth th _ _ (((HT4.out.below HB5.out).below ((Below.refl _ _).alloc (Nat.le_refl _) _)).below HB6.out) (by simp [Tr.list])).mono ?_
  rintro e w7 ⟨rfl, hb7⟩
  have HB7 := hid hb7
  clear hb7
  go_wp2_with fail
  go_ret
  refine ⟨rfl, ?_⟩
  exact below_on (below_on (below_on (below_on HB4.out HB5.out) ((Below.refl _ _).alloc (Nat.le_refl _) _)) HB6.out) HB7.out
end

/- The tree of numbers: what a beginning counts. -/
section
open Go.RowKit

def foldT (p : Int → Bool) : Tr Int → List Int → List Int
  | .nil, acc => acc
  | .node _ _ l x r, acc => if p x then foldT p r (acc ++ (l.list ++ [x])) else foldT p l acc
/-- Of a beginning it is what is in it. -/
theorem foldT_eq (p : Int → Bool) (hp : ∀ a b, a < b → p b = true → p a = true) (t : Tr Int) : ∀ acc, Srt t.list → foldT p t acc = acc ++ t.list.filter p := by
  induction t with
  | nil => intro acc _; simp [foldT, Tr.list]
  | node g c l x r ihl ihr =>
    intro acc h
    unfold Srt at h
    simp only [Tr.list] at h ⊢
    rw [List.pairwise_append, List.pairwise_cons] at h
    simp only [foldT]
    cases hx : p x with
    | true =>
      rw [if_pos rfl, ihr _ h.2.1.2]
      have : l.list.filter p = l.list := List.filter_eq_self.2 (fun a ha => hp a x (h.2.2 a ha x (by simp)) hx)
      rw [List.filter_append, List.filter_cons, if_pos hx, this]
      simp
    | false =>
      rw [if_neg (by simp), ihl _ h.1]
      have : r.list.filter p = [] := List.filter_eq_nil_iff.2 (fun a ha hpa => by
        have := hp x a (h.2.1.1 a ha) hpa
        rw [hx] at this; exact absurd this (by simp))
      rw [List.filter_append, List.filter_cons, if_neg (by rw [hx]; simp), this]
      simp
theorem foldT_len (p : Int → Bool) (t : Tr Int) : ∀ acc, (foldT p t acc).length ≤ acc.length + t.list.length := by
  induction t with
  | nil => intro acc; simp [foldT, Tr.list]
  | node g c l x r ihl ihr =>
    intro acc
    simp only [foldT, Tr.list]
    split
    · have := ihr (acc ++ (l.list ++ [x])); simp at this ⊢; omega
    · have := ihl acc; simp; omega

/-- A list as it is told: none, or a slice. -/
def Part (w : World) (v : Value) (some : Bool) (L : List Int) : Prop := (v = .slice none 0 0 ∧ some = false ∧ L = []) ∨ (some = true ∧ Sl w v L)
theorem Part.below {w w' : World} {v : Value} {b : Bool} {L : List Int} (h : Part w v b L) (hb : Below w.heap.size w w') : Part w' v b L := h.imp id (fun h => ⟨h.1, h.2.below hb⟩)
def Folds (L : List Int) (w : World) (e : Ending) (w' : World) : Prop := ∃ A n c b, e = .returned (.tuple #[.slice A n c, .bool b]) ∧ Part w' (.slice A n c) b L ∧ Below w.heap.size w w'

section
attribute [local go_sem] eqlFin

set_option maxRecDepth 100000 in
set_option maxHeartbeats 4000000 in
theorem Rb.foldTold (th : Nat) (k : Nat) (t : Tr Int) (p : Int → Bool) (w : World) (h : TreeAt w th t) (hn : t.list.length ≤ 400000)
    (hin : ∀ (y : Int) (w' : World), Below w.heap.size w w' → Calls Try.prog 76 #[.int .i64 y, .pointer (some ⟨k, 0, none⟩)] w' fun e w'' => e = .returned (.bool (p y)) ∧ w' = w'') :
    Calls Try.prog 75 #[.pointer (some ⟨th, 0, none⟩), (.func (.func 76) #[] #[.pointer (some ⟨k, 0, none⟩)])] w (Folds (foldT p t []) w) := by
  have HT := hid h
  have HN := hid hn
  have HIN := hid hin
  obtain ⟨b1, b2, t0, t1, t2, _⟩ := h.1
  have HE := hid (And.intro t0 (And.intro t1 t2))
  have e3 := t0.at3
  clear t0 t1 t2 h hn hin
  go_enter Try.func75, Try.ntmps75
  go_wp2_with fail
  go_loopg [6, 7, 8] t.size (fun s a b u wr => ∃ (A : Option Addr) (n c : Nat) (sm : Bool) (acc : List Int) (v : Tr Int), a = .slice A n c ∧ b = .bool sm ∧ u = ptr v ∧ s = v.size ∧ Part wr (.slice A n c) sm acc ∧ foldT p v acc = foldT p t [] ∧ In w v ∧ acc.length + v.list.length ≤ 400000 ∧ Below w.heap.size w wr)
  case atStart => exact ⟨none, 0, 0, false, [], t, rfl, rfl, rfl, rfl, Or.inl ⟨rfl, rfl, rfl⟩, rfl, HT.out.2.1, by simpa using HN.out, Below.refl _ _⟩
  case round =>
    obtain ⟨A, n, c, sm, acc, v, rfl, rfl, rfl, hs, hp, hf, hi, hl, hb⟩ := hrel
    have HS := hid hs
    have HP := hid hp
    have HF := hid hf
    have HI := hid hi
    have HL := hid hl
    have HB := hid hb
    have HC := hid (And.intro (HE.out.1.below hb) (And.intro (HE.out.2.1.below hb) (HE.out.2.2.below hb)))
    have e1 := HC.out.1.at1
    have e2 := HC.out.1.at2
    clear hs hp hf hi hl hb e3
    cases v with
    | nil =>
      simp only [ptr_nil]
      clear e1 e2
      go_wp2_with fail
      go_ret2
      exact ⟨A, n, c, sm, rfl, by rw [← HF.out]; exact HP.out, HB.out⟩
    | node g cc l x r =>
      have HI2 := hid (HI.out.below HB.out)
      obtain ⟨⟨v', _, hc⟩, _⟩ := HI2.out
      have c0 := hc.at0
      have c2 := hc.at2
      have c3 := hc.at3
      have HCs := hid hc
      clear hc
      simp only [ptr_node]
      go_wp2_with fail
      refine (HIN.out x _ HB.out).mono ?_
      rintro e w1 ⟨rfl, rfl⟩
      cases hx : p x with
      | false =>
        have HX := hid hx
        clear hx e1 e2
        go_wp2_with fail
        go_roundg l.size
        case measure => have := HS.out; simp only [Tr.size] at this; omega
        case rel => exact ⟨A, n, c, sm, acc, l, rfl, rfl, rfl, rfl, HP.out, by rw [← HF.out, foldT, if_neg (by rw [HX.out]; simp)], HI.out.2.1, by have := HL.out; simp only [Tr.list, List.length_append, List.length_cons] at this; omega, HB.out⟩
      | true =>
        have HX := hid hx
        clear hx
        have hll : l.list.length ≤ 900000 := by have := HL.out; simp only [Tr.list, List.length_append, List.length_cons] at this; omega
        have HLL := hid hll
        clear hll
        go_wp2_with fail
        refine (Rb.upTo g b1 b2 cc l r x _ HI2.out.st HLL.out HC.out.2.1 HC.out.2.2).mono ?_
        rintro e w2 ⟨A2, n2, c2', rfl, hs2, hb2⟩
        have HS2 := hid hs2
        have HB2 := hid hb2
        have e1 := keep1 hb2 e1
        have q3 := keep1 hb2 c3
        clear hs2 hb2 c3 c0 c2 e2
        have HNEW : Hid (foldT p r (acc ++ (l.list ++ [x])) = foldT p t []) := hid (by rw [← HF.out, foldT, if_pos HX.out])
        have HLR : Hid ((acc ++ (l.list ++ [x])).length + r.list.length ≤ 400000) := hid (by have := HL.out; simp only [Tr.list, List.length_append, List.length_cons, List.length_nil] at this ⊢; omega)
        cases sm with
        | false =>
          have hacc : acc = [] := by
            rcases HP.out with h | h
            · exact h.2.2
            · exact absurd h.1 (by simp)
          have HA := hid hacc
          clear hacc
          go_wp2_with fail
          go_roundg r.size
          case measure => have := HS.out; simp only [Tr.size] at this; omega
          case rel => exact ⟨A2, n2, c2', true, acc ++ (l.list ++ [x]), r, rfl, rfl, rfl, rfl, Or.inr ⟨rfl, by rw [HA.out]; simpa using HS2.out⟩, HNEW.out, HI.out.2.2, HLR.out, below_on HB.out HB2.out⟩
        | true =>
          have hsl : Sl w2 (.slice A n c) acc := by
            rcases HP.out with h | h
            · exact absurd h.2.1 (by simp)
            · exact h.2.below HB2.out
          have HSL := hid hsl
          clear hsl
          go_wp2_with fail
          refine (Law6.both _ _ acc (l.list ++ [x]) _ HSL.out HS2.out (by have := HL.out; simp only [Tr.list, List.length_append, List.length_cons, List.length_nil] at this ⊢; omega)).mono ?_
          rintro e w3 ⟨v3, rfl, hs3, hb3⟩
          obtain ⟨A3, n3, c3, rfl⟩ := hs3.form
          have HS3 := hid hs3
          have HB3 := hid hb3
          have q3 := keep1 hb3 q3
          clear hs3 hb3 e1
          go_wp2_with fail
          go_roundg r.size
          case measure => have := HS.out; simp only [Tr.size] at this; omega
          case rel => exact ⟨A3, n3, c3, true, acc ++ (l.list ++ [x]), r, rfl, rfl, rfl, rfl, Or.inr ⟨rfl, HS3.out⟩, HNEW.out, HI.out.2.2, HLR.out, below_on (below_on HB.out HB2.out) HB3.out⟩

end
end

end Go.Proofs.Ytmklbmiddeonkaa

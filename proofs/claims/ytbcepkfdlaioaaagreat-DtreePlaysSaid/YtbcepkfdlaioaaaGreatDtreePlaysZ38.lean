/- Texts of DtreePlays's proof, together. -/
import Derived.Test.YtbcepkfdlaioaaaGreatDtreePlaysZ34
import Derived.Test.YtbcepkfdlaioaaaGreatDtreePlaysZ32
import Derived.Test.YtbcepkfdlaioaaaGreatOpenD
namespace Go.Proofs.YtbcepkfdlaioaaaGreat

section
open Go.RowKit
set_option maxRecDepth 100000 in
set_option maxHeartbeats 4000000 in
theorem Dtree.clone7 (th : Nat) (t : Tr It) (hn : t.list.length ≤ 900000) (w : World) (h : DTreeAt w th t) : Calls Tryz.prog 17 #[.agg #[.pointer (some ⟨th, 0, none⟩)]] w (fun e w' => ∃ th' t', e = .returned (.agg #[.pointer (some ⟨th', 0, none⟩)]) ∧ Tr.SameI t t' ∧ DTreeAt w' th' t' ∧ (∀ g ∈ th' :: t'.blocks, w.heap.size ≤ g) ∧ Below w.heap.size w w') := by
 have hb0 := (Below.refl w.heap.size w).alloc (Nat.le_refl _) (.cells #[.pointer (some ⟨th, 0, none⟩)] 27)
 have hb1 := hb0.alloc (by simp) (.cells #[.pointer none] 27)
 have c1 := Cs.alloc_new (w.alloc (.cells #[.pointer (some ⟨th, 0, none⟩)] 27)) 27 [.pointer none]
 have HV : Hid ((Cs ((w.alloc (.cells #[.pointer (some ⟨th, 0, none⟩)] 27)).alloc (.cells #[.pointer none] 27)) w.heap.size [.pointer (some ⟨th, 0, none⟩)] ∧ Cs ((w.alloc (.cells #[.pointer (some ⟨th, 0, none⟩)] 27)).alloc (.cells #[.pointer none] 27)) (w.heap.size + 1) [.pointer none]) ∧ Below w.heap.size w ((w.alloc (.cells #[.pointer (some ⟨th, 0, none⟩)] 27)).alloc (.cells #[.pointer none] 27))) := hid ⟨⟨(Cs.alloc_new w 27 [.pointer (some ⟨th, 0, none⟩)]).alloc _, by simpa using c1⟩, hb1⟩
 have HH := hid h
 clear hb0 hb1 c1 h
 go_enter Tryz.func17, Tryz.ntmps17
 go_upto_region 1 with fail
 generalize ((w.alloc (.cells #[.pointer (some ⟨th, 0, none⟩)] 27)).alloc (.cells #[.pointer none] 27)) = W0 at HV ⊢
 have e0 := HV.out.1.1.at0
 go_wp2_with fail
 refine (Dt.clone th t hn _ (HH.out.below HV.out.2)).mono ?_
 rintro e w1 ⟨th', t', rfl, hs, ht, hg, hb⟩
 have HS := hid hs
 have HT := hid ht
 have HG := hid hg
 have HB := hid hb
 have c1 := HV.out.1.2.below hb
 have HC := hid c1
 have e1 := c1.at0
 have e2 := (c1 0 _ rfl).2
 have HN7 : Hid (th' ≠ w.heap.size + 1 ∧ w.heap.size + 1 ∉ t'.blocks) := hid (by
  have h9 := c1.lt
  have h8 := HV.out.1.2.lt
  exact ⟨fun e => by have := hg th' (by simp); omega, fun hm => by have := hg _ (List.mem_cons_of_mem _ hm); omega⟩)
 clear hs ht hg hb c1 e0
 go_upto_region 2 with fail
 obtain ⟨W3, hW3⟩ : ∃ W3, W3 = w1.setCell ⟨w.heap.size + 1, 0, none⟩ (.pointer (some ⟨th', 0, none⟩)) := ⟨_, rfl⟩
 have HC3 : Hid (Chg [w.heap.size + 1] w1 W3) := hid (by rw [hW3]; exact (Chg.refl [w.heap.size + 1] w1).set (Or.inl (by simp)) 0 _)
 have e3 : W3.cell? ⟨w.heap.size + 1, 0, none⟩ = some (.pointer (some ⟨th', 0, none⟩)) := by rw [hW3]; exact (HC.out.set 0 (by simp) (.pointer (some ⟨th', 0, none⟩))).at0
 rw [← hW3]
 have HW3 := hid hW3
 clear hW3 e1 e2
 go_wp2_with fail
 refine bodyPost_ret (v := .agg #[.pointer (some ⟨th', 0, none⟩)]) (by simp [results, Tryz.results17, go_sem, e3]) rfl ⟨th', t', rfl, HS.out, ⟨HT.out.1.far1 HC.out ⟨_, rfl⟩ HN7.out.1 HW3.out, HT.out.2.1.far1 HW3.out HN7.out.2, HT.out.2.2⟩, fun g hg => Nat.le_trans HV.out.2.size (HG.out g hg), (below_on HV.out.2 HB.out).trans (HC3.out.toBelow (below_on HV.out.2 HB.out).size (fun k hk => by simp at hk; omega))⟩
theorem Tho.chg7 {F : List Nat} {w w' : World} {b o : Nat} {x : It} (h : Tho w b o x) (hc : Chg F w w') (hl : b < w.heap.size) (hb : b ∉ F) : Tho w' b o x :=
 ⟨(hc.cell (p := ⟨b, o, none⟩) hl hb).trans h.1, (hc.cell (p := ⟨b, o + 1, none⟩) hl hb).trans h.2.1, (hc.cell (p := ⟨b, o + 2, none⟩) hl hb).trans h.2.2.1, (hc.cell (p := ⟨b, o + 3, none⟩) hl hb).trans h.2.2.2.1, (hc.cell (p := ⟨b, o + 4, none⟩) hl hb).trans h.2.2.2.2.1, (hc.cell (p := ⟨b, o + 5, none⟩) hl hb).trans h.2.2.2.2.2.1, (hc.cell (p := ⟨b, o + 6, none⟩) hl hb).trans h.2.2.2.2.2.2⟩
theorem RdI.chg7 {F : List Nat} {w w' : World} {A : Option Addr} {n : Nat} {L : List It} (h : RdI w A n L) (hc : Chg F w w') (hF : ∀ k ∈ rowOf A, k ∉ F) : RdI w' A n L :=
 ⟨h.1, fun i hi => by
  obtain ⟨b, off, e, hl, hcs⟩ := h.2 i hi
  have hb : b ∉ F := hF b (by rw [e]; simp [rowOf])
  exact ⟨b, off, e, Nat.lt_of_lt_of_le hl hc.size, fun j hj => (hcs j hj).chg7 hc hl hb⟩⟩
def Kp (th : Nat) (t : Tr It) (k : Nat) (w : World) : Prop := k < w.heap.size ∧ k ∉ th :: t.blocks
theorem Kp.below {th : Nat} {t : Tr It} {k : Nat} {w w' : World} (h : Kp th t k w) (hb : Below w.heap.size w w') : Kp th t k w' := ⟨Nat.lt_of_lt_of_le h.1 hb.size, h.2⟩
theorem Kp.on {th : Nat} {t t' : Tr It} {k : Nat} {w w' : World} (h : Kp th t k w) (hc : Chg (th :: t.blocks) w w') (hn : ∀ g ∈ t'.blocks, g ∈ t.blocks ∨ w.heap.size ≤ g) : Kp th t' k w' :=
 ⟨Nat.lt_of_lt_of_le h.1 hc.size, fun hm => by
  rcases List.mem_cons.1 hm with rfl | h1
  ·exact h.2 (by simp)
  ·rcases hn k h1 with h2 | h2
   ·exact h.2 (List.mem_cons_of_mem _ h2)
   ·have := h.1; omega⟩
theorem GW.kp {t0 : Int} {w w1 : World} {th : Nat} {t : Tr It} (h : GW t0 w th t w1) {k : Nat} (hk : w1.heap.size ≤ k) {w2 : World} (h2 : k < w2.heap.size) : Kp th t k w2 := ⟨h2, fun hm => by have := h.lt k hm; omega⟩
def Rw (th : Nat) (t : Tr It) (A : Option Addr) (n : Nat) (L : List It) (w : World) : Prop := RdI w A n L ∧ ∀ k ∈ rowOf A, Kp th t k w
theorem Rw.below {th : Nat} {t : Tr It} {A : Option Addr} {n : Nat} {L : List It} {w w' : World} (h : Rw th t A n L w) (hb : Below w.heap.size w w') : Rw th t A n L w' := ⟨h.1.below hb, fun k hk => (h.2 k hk).below hb⟩
theorem Rw.on {th : Nat} {t t' : Tr It} {A : Option Addr} {n : Nat} {L : List It} {w w' : World} (h : Rw th t A n L w) (hc : Chg (th :: t.blocks) w w') (hn : ∀ g ∈ t'.blocks, g ∈ t.blocks ∨ w.heap.size ≤ g) : Rw th t' A n L w' :=
 ⟨h.1.chg7 hc (fun k hk => (h.2 k hk).2), fun k hk => (h.2 k hk).on hc hn⟩
theorem Rw.made {t0 : Int} {w0 w w' : World} {th : Nat} {t : Tr It} {A A' : Option Addr} {n n' : Nat} {L L' : List It} (hg : GW t0 w0 th t w) (h : Rw th t A n L w) (hr : RdI w' A' n' L') (hb : Below w.heap.size w w') (hA : A' = A ∨ ∀ k ∈ rowOf A', w.heap.size ≤ k ∧ k < w'.heap.size) : Rw th t A' n' L' w' :=
 ⟨hr, fun k hk => by
  rcases hA with rfl | h1
  ·exact (h.2 k hk).below hb
  ·exact hg.kp (h1 k hk).1 (h1 k hk).2⟩
def Ct (th : Nat) (t : Tr It) (b : Nat) (vs : List Value) (w : World) : Prop := Cs w b vs ∧ Kp th t b w
theorem Ct.below {th : Nat} {t : Tr It} {b : Nat} {vs : List Value} {w w' : World} (h : Ct th t b vs w) (hb : Below w.heap.size w w') : Ct th t b vs w' := ⟨h.1.below hb, h.2.below hb⟩
theorem Ct.on {th : Nat} {t t' : Tr It} {b : Nat} {vs : List Value} {w w' : World} (h : Ct th t b vs w) (hc : Chg (th :: t.blocks) w w') (hn : ∀ g ∈ t'.blocks, g ∈ t.blocks ∨ w.heap.size ≤ g) : Ct th t' b vs w' := ⟨h.1.chg hc h.2.2, h.2.on hc hn⟩
theorem GW.ct {t0 : Int} {w w1 w2 : World} {th : Nat} {t : Tr It} (h : GW t0 w th t w1) {b : Nat} {v : Value} {vs : List Value} (hk : w1.heap.size ≤ b) (hc : Cs w2 b (v :: vs)) : Ct th t b (v :: vs) w2 := ⟨hc, h.kp hk hc.lt⟩
theorem Cs.act9 {w : World} {g : Nat} {d i : Int} {x : It} (h : Cs w g (.int .u8 d :: .int .u8 i :: x.cells)) : w.cell? ⟨g, 0, none⟩ = some (.int .u8 d) ∧ w.cell? ⟨g, 1, none⟩ = some (.int .u8 i) ∧ w.cell? ⟨g, 2, none⟩ = some (.int .u64 x.t) ∧ w.cell? ⟨g, 3, none⟩ = some (.int .u32 x.r) ∧ w.cell? ⟨g, 4, none⟩ = some (.int .u32 x.v) ∧ w.cell? ⟨g, 5, none⟩ = some (.int .i64 x.i) ∧ w.cell? ⟨g, 6, none⟩ = some (.int .u64 x.u) ∧ w.cell? ⟨g, 7, none⟩ = some (.int .u32 x.s) ∧ w.cell? ⟨g, 8, none⟩ = some (.int .u32 x.y) :=
 ⟨(h 0 _ rfl).1, (h 1 _ rfl).1, (h 2 _ rfl).1, (h 3 _ rfl).1, (h 4 _ rfl).1, (h 5 _ rfl).1, (h 6 _ rfl).1, (h 7 _ rfl).1, (h 8 _ rfl).1⟩
theorem InA7.get {l : List (Int × Int × It)} (h : InA7 l) {k : Nat} (hk : k < l.length) : (0 ≤ (l.getD k (0, 0, It.zero)).1 ∧ (l.getD k (0, 0, It.zero)).1 ≤ 255) ∧ (0 ≤ (l.getD k (0, 0, It.zero)).2.1 ∧ (l.getD k (0, 0, It.zero)).2.1 ≤ 255) ∧ (l.getD k (0, 0, It.zero)).2.2.In := by
 have e : l.getD k (0, 0, It.zero) = l[k] := by simp [List.getD, hk]
 rw [e]
 exact h _ (List.getElem_mem hk)
theorem repR_len {a x : It} {L : List It} : (repR a x L).length ≤ L.length + 1 := by
 unfold repR
 split
 ·have h1 := @insR_len x (delI a L)
  have h2 := @delI_len a L
  rename_i h3
  unfold insR at h1
  unfold repO at h3
  rw [if_neg (by simpa using h3)] at h1
  omega
 ·omega
def Rp7 (B : Nat) (A1 : Option Addr) (L : List It) (y : Option Addr × Nat × Nat) (w : World) : Prop := RdI w y.1 y.2.1 L ∧ y.2.1 ≤ y.2.2 ∧ (y.1 = A1 ∨ ∀ k ∈ rowOf y.1, B ≤ k ∧ k < w.heap.size)
theorem Rp7.st (B : Nat) (A1 : Option Addr) (L : List It) (y : Option Addr × Nat × Nat) : Stays (Rp7 B A1 L y) := fun _ _ h hb => ⟨h.1.below hb, h.2.1, h.2.2.imp id (fun h1 k hk => ⟨(h1 k hk).1, Nat.lt_of_lt_of_le (h1 k hk).2 hb.size⟩)⟩
theorem Ref7.replaceN (A : Option Addr) (n c : Nat) (L : List It) (a x : It) (ha : a.In) (hx : x.In) (w : World) (hr : RdI w A n L) (hl : InI L) (hn : n ≤ 900000) (hnc : n ≤ c) (hd : decide ((delI a L).length < L.length) = true) (B : Nat) (hB : B ≤ w.heap.size) : Calls Tryz.prog 15 #[.slice A n c, a.val, x.val] w (fun e w' => ∃ y : Option Addr × Nat × Nat, e = .returned (.tuple #[.slice y.1 y.2.1 y.2.2, .bool (repO a x L)]) ∧ Rp7 B A (repR a x L) y w' ∧ Below w.heap.size w w') := by
 refine (Ref7.replace A n c L a x ha hx w hr hl hn hnc hd).mono ?_
 rintro e w' ⟨A2, n2, c2, rfl, hr2, hb, hc2, hg2⟩
 exact ⟨(A2, n2, c2), rfl, ⟨hr2, hc2, hg2.imp id (fun h1 k hk => ⟨Nat.le_trans hB (h1 k hk).1, (h1 k hk).2⟩)⟩, hb⟩
theorem delI_cons {t0 : Int} {y : It} {l : List It} (h : Nr7 t0 (y :: l)) : delI y (y :: l) = l := by
 have h1 := h.1
 unfold SrtI at h1
 rw [List.pairwise_cons] at h1
 have := delI_parts (A := []) (B := l) (h.nr y (by simp)) (fun a ha => by cases ha) h1.1
 simpa using this
theorem drop_itD {L : List It} {k : Nat} (hk : k < L.length) : L.drop k = L.getD k It.zero :: L.drop (k + 1) := by
 rw [getD_it hk]
 exact (List.getElem_cons_drop hk).symm
theorem shift_getD (d : Int) {L : List It} {k : Nat} (hk : k < L.length) : (L.map (It.shift d)).getD k It.zero = It.shift d (L.getD k It.zero) := by
 simp [List.getD, hk]
theorem DIn.chg7 {F : List Nat} {w w' : World} {t : Tr It} : DIn w t → Chg F w w' → (∀ g ∈ t.blocks, g ∉ F) → DIn w' t := by
 induction t with
 | nil => intro _ _ _; trivial
 | node g c l x r ihl ihr =>
  intro h hc hd
  obtain ⟨⟨v, hv, hcs⟩, hl, hr⟩ := h
  exact ⟨⟨v, hv, hcs.chg hc (hd g (by simp [Tr.blocks]))⟩, ihl hl hc (fun k hk => hd k (by simp [Tr.blocks, hk])), ihr hr hc (fun k hk => hd k (by simp [Tr.blocks, hk]))⟩
theorem DEnv.chg7 {F : List Nat} {w w' : World} {th : Nat} {root : Value} {n : Int} (h : DEnv w th root n) (hc : Chg F w w') (hF : ∀ g ∈ F, ∀ f a c, w.cell? ⟨g, 0, none⟩ ≠ some (.func f a c)) : DEnv w' th root n := by
 obtain ⟨b1, b2, h0, h1, h2, n0, n1, n2, n3, n4⟩ := h
 have f0 : th ∉ F := fun hf => hF _ hf _ _ _ h0.at0
 have f1 : b1 ∉ F := fun hf => hF _ hf _ _ _ h1.at0
 have f2 : b2 ∉ F := fun hf => hF _ hf _ _ _ h2.at0
 exact ⟨b1, b2, h0.chg hc f0, h1.chg hc f1, h2.chg hc f2, (hc.cell (p := ⟨th, 14, none⟩) h0.lt f0).trans n0, (hc.cell (p := ⟨b1, 14, none⟩) h1.lt f1).trans n1, (hc.cell (p := ⟨b2, 14, none⟩) h2.lt f2).trans n2, n3, n4⟩
theorem Ct.away {th : Nat} {t : Tr It} {F : List Nat} {b : Nat} {vs : List Value} {w w' : World} (h : Ct th t b vs w) (hc : Chg F w w') (hF : b ∉ F) : Ct th t b vs w' := ⟨h.1.chg hc hF, Nat.lt_of_lt_of_le h.2.1 hc.size, h.2.2⟩
theorem Rw.away {th : Nat} {t : Tr It} {F : List Nat} {A : Option Addr} {n : Nat} {L : List It} {w w' : World} (h : Rw th t A n L w) (hc : Chg F w w') (hF : ∀ k ∈ rowOf A, k ∉ F) : Rw th t A n L w' := ⟨h.1.chg7 hc hF, fun k hk => ⟨Nat.lt_of_lt_of_le (h.2 k hk).1 hc.size, (h.2 k hk).2⟩⟩
def Tk (th : Nat) (t : Tr It) (b : Nat) (x : It) (w : World) : Prop := Th w b x ∧ Kp th t b w
theorem Tk.below {th : Nat} {t : Tr It} {b : Nat} {x : It} {w w' : World} (h : Tk th t b x w) (hb : Below w.heap.size w w') : Tk th t b x w' := ⟨h.1.below hb, h.2.below hb⟩
theorem Tk.on {th : Nat} {t t' : Tr It} {b : Nat} {x : It} {w w' : World} (h : Tk th t b x w) (hc : Chg (th :: t.blocks) w w') (hn : ∀ g ∈ t'.blocks, g ∈ t.blocks ∨ w.heap.size ≤ g) : Tk th t' b x w' := ⟨h.1.chg hc h.2.2, h.2.on hc hn⟩
theorem GW.put {t0 : Int} {w w1 : World} {th : Nat} {t : Tr It} (h : GW t0 w th t w1) {b : Nat} {z : It} (hc : Ct th t b z.cells w1) (hB : w.heap.size ≤ b) (k : It) : ∀ W, W = w1.setCells b 0 k.cells → GW t0 w th t W ∧ Tk th t b k W ∧ Chg [b] w1 W := fun W e => by
 have hch : Chg [b] w1 W := by rw [e]; exact Chg.sets k.cells 0 (Chg.refl _ _) (Or.inl (by simp))
 have hT := (answer_it hB ⟨z, hc.1⟩ h.1.2.2.2 k W e)
 have hF : ∀ g ∈ [b], ∀ f a c, w1.cell? ⟨g, 0, none⟩ ≠ some (.func f a c) := fun g hg f a c e2 => by
  simp only [List.mem_singleton] at hg
  subst hg
  rw [(hc.1 0 _ rfl).1] at e2
  cases e2
 have hd : ∀ g ∈ t.blocks, g ∉ [b] := fun g hg hm => by
  simp only [List.mem_singleton] at hm
  subst hm
  exact hc.2.2 (List.mem_cons_of_mem _ hg)
 exact ⟨⟨⟨⟨h.1.1.1.chg7 hch hF, h.1.1.2.1.chg7 hch hd, h.1.1.2.2⟩, h.1.2.1, h.1.2.2.1, hT.2⟩, h.2⟩, ⟨hT.1, Nat.lt_of_lt_of_le hc.2.1 hch.size, hc.2.2⟩, hch⟩
end


section
open Go.RowKit
set_option maxRecDepth 100000
set_option maxHeartbeats 32000000
theorem Dplays.away (t0 d : Int) (A : Option Addr) (n c : Nat) (m : Int) (hn : 60 < n) (w : World) : Calls Tryz.prog 3 #[.int .u64 t0, .int .u64 d, .slice A n c, .int .u8 m] w (Ans (.bool true) w) := by
 have h1 : (60 : Int) < n := by omega
 go_enter Tryz.func3, Tryz.ntmps3
 go_wp2_with fail
 refine (Law7.awake _).mono ?_
 rintro e w1 ⟨rfl, hb⟩
 have HB := hid hb
 clear hb
 go_wp2_with fail
 go_ret
 exact ⟨rfl, HB.out⟩
theorem Dplays.core (t0 d : Int) (A : Option Addr) (n c : Nat) (m : Int) (ps : List (Int × Int × It)) (hm : 0 ≤ m ∧ m ≤ 255) (hn : n ≤ 60) (w : World) (h : RdA7 w A n ps) (hi : InA7 ps) : Calls Tryz.prog 3 #[.int .u64 t0, .int .u64 d, .slice A n c, .int .u8 m] w (Ans (.bool true) w) := by
 have HR := hid h
 have HI := hid hi
 have HLN := hid h.1
 have HM := hid hm
 have hni : (n : Int) ≤ 60 := by omega
 have hn60 : ¬ (60 : Int) < n := by omega
 clear h hi hm
 go_enter Tryz.func3, Tryz.ntmps3
 go_wp2_with fail
 refine (Law7.awake _).mono ?_
 rintro e w1 ⟨rfl, hb⟩
 have HB1 := hid hb
 have HR1 := hid (HR.out.below hb)
 clear hb HR
 go_wp2_with fail
 refine (Dtree.new none 0 0 [] _ ⟨rfl, fun i hi => absurd hi (by omega)⟩ (fun x hx => by cases hx) (by omega)).mono ?_
 rintro e w2 ⟨th, t, rfl, hbt, hg⟩
 obtain rfl := hbt.nil_inv rfl
 have HG2 : Hid (GW t0 w1 th .nil w2) := hid ⟨hg, Tr.Whole.nil, List.Pairwise.nil, fun x hx => by simp [Tr.list] at hx⟩
 have hal := (Below.refl w2.heap.size w2).alloc (Nat.le_refl _) (.cells #[.pointer (some ⟨th, 0, none⟩)] 27)
 have HC3 : Hid (Ct th .nil w2.heap.size [(.pointer (some ⟨th, 0, none⟩))] (w2.alloc (.cells #[.pointer (some ⟨th, 0, none⟩)] 27))) := hid (HG2.out.ct (Nat.le_refl _) (Cs.alloc_new w2 27 [(.pointer (some ⟨th, 0, none⟩))]))
 have HG3 := hid (HG2.out.below hal)
 clear hal hg hbt HG2
 go_upto_region 6 with fail
 generalize (w2.alloc (.cells #[.pointer (some ⟨th, 0, none⟩)] 27)) = W2 at HC3 HG3 ⊢
 generalize w2.heap.size = b9 at HC3 ⊢
 go_wp2_with fail
 go_loopg [10, 29] n (fun s a10 i wr => ∃ (k : Nat) (t : Tr It) (A1 : Option Addr) (c1 : Nat), a10 = .slice A1 t.list.length c1 ∧ i = .int .i64 k ∧ k ≤ n ∧ s = n - k ∧ t.list.length ≤ k ∧ t.list.length ≤ c1 ∧ GW t0 w1 th t wr ∧ Ct th t b9 [(.pointer (some ⟨th, 0, none⟩))] wr ∧ Rw th t A1 t.list.length t.list wr)
 case atStart => exact ⟨0, .nil, none, 0, rfl, rfl, Nat.zero_le _, by omega, by simp [Tr.list], by simp [Tr.list], HG3.out, HC3.out, ⟨⟨rfl, fun i hi => absurd hi (by simp [Tr.list])⟩, fun k hk => by simp [rowOf] at hk⟩⟩
 case round =>
  obtain ⟨k, t, A1, c1, rfl, rfl, hk, hs, hl, hcp, hg, hct, hrw⟩ := hrel
  have HS := hid hs
  have HL := hid hl
  have HCP := hid hcp
  have HG := hid hg
  have HC := hid hct
  have HRW := hid hrw
  clear hs hl hcp hg hct hrw HG3 HC3
  by_cases hkn : k < n
  ·obtain ⟨bb, off, hA, _, hc⟩ := (HR1.out.below HG.out.1.2.2.2).2 0 (by omega)
   obtain ⟨d0, d1, hx⟩ := hc k hkn
   obtain ⟨p0, p1, p2, p3, p4, p5, p6⟩ := hx
   have HIK := hid (HI.out.get (k := k) (by have := HLN.out; omega))
   generalize (ps.getD k (0, 0, It.zero)).1 = o at d0 HIK
   generalize (ps.getD k (0, 0, It.zero)).2.1 = ix at d1 HIK
   generalize (ps.getD k (0, 0, It.zero)).2.2 = x at p0 p1 p2 p3 p4 p5 p6 HIK
   subst hA
   have hki : (k : Int) < n := by omega
   have hk0 : (0 : Int) ≤ k := by omega
   clear hc
   have hal := (Below.refl wr.heap.size wr).alloc (Nat.le_refl _) (.cells #[.int .u8 o, .int .u8 ix, .int .u64 x.t, .int .u32 x.r, .int .u32 x.v, .int .i64 x.i, .int .u64 x.u, .int .u32 x.s, .int .u32 x.y] 37)
   have HV0 : Hid (Ct th t wr.heap.size (.int .u8 o :: .int .u8 ix :: x.cells) (wr.alloc (.cells #[.int .u8 o, .int .u8 ix, .int .u64 x.t, .int .u32 x.r, .int .u32 x.v, .int .i64 x.i, .int .u64 x.u, .int .u32 x.s, .int .u32 x.y] 37))) := hid (HG.out.ct (Nat.le_refl _) (Cs.alloc_new wr 37 (.int .u8 o :: .int .u8 ix :: x.cells)))
   have HG0 := hid (HG.out.below hal)
   have HC0 := hid (HC.out.below hal)
   have HRW0 := hid (HRW.out.below hal)
   have HN0 : Hid (∀ g, (g = b9 ∨ g ∈ rowOf A1) → g < wr.heap.size) := hid (fun g hg => by
    rcases hg with rfl | hg
    ·exact HC.out.2.1
    ·exact (HRW.out.2 g hg).1)
   clear hal HG HC HRW
   go_upto_region 10 with fail
   generalize (wr.alloc (.cells #[.int .u8 o, .int .u8 ix, .int .u64 x.t, .int .u32 x.r, .int .u32 x.v, .int .i64 x.i, .int .u64 x.u, .int .u32 x.s, .int .u32 x.y] 37)) = W3 at HV0 HG0 HC0 HRW0 ⊢
   clear d0 d1 p0 p1 p2 p3 p4 p5 p6
   have HN1 : Hid (∀ g, (g = b9 ∨ g ∈ rowOf A1) → g ≠ wr.heap.size) := hid (fun g hg => by have := HN0.out g hg; omega)
   generalize wr.heap.size = b12 at HV0 HN1 ⊢
   obtain ⟨v0, v1, v2, v3, v4, v5, v6, v7, v8⟩ := HV0.out.1.act9
   go_wp2_with fail
   refine (Law7.near t0 x _).mono ?_
   rintro e w4 ⟨rfl, hb⟩
   clear v0 v1 v2 v3 v4 v5 v6 v7 v8
   have HG4 := hid (HG0.out.below hb)
   have HC4 := hid (HC0.out.below hb)
   have HRW4 := hid (HRW0.out.below hb)
   have HV4 := hid (HV0.out.below hb)
   clear hb HG0 HC0 HRW0 HV0
   cases hnr : It.near7 t0 x with
   | false =>
    clear hnr
    go_wp2_with fail
    go_ret
    exact ⟨rfl, below_on HB1.out HG4.out.1.2.2.2⟩
   | true =>
    have HNX := hid hnr
    clear hnr
    have hal := (Below.refl w4.heap.size w4).alloc (Nat.le_refl _) (.cells #[.int .u64 0, .int .u32 0, .int .u32 0, .int .i64 0, .int .u64 0, .int .u32 0, .int .u32 0] 35)
    have HZ5 : Hid (Ct th t w4.heap.size It.zero.cells (w4.alloc (.cells #[.int .u64 0, .int .u32 0, .int .u32 0, .int .i64 0, .int .u64 0, .int .u32 0, .int .u32 0] 35))) := hid (HG4.out.ct (Nat.le_refl _) (Cs.new7 w4 35 It.zero))
    have HN5 : Hid ((∀ g, (g = b9 ∨ g ∈ rowOf A1) → g ≠ w4.heap.size) ∧ b12 ≠ w4.heap.size ∧ w1.heap.size ≤ w4.heap.size) := hid ⟨fun g hg => by
     rcases hg with rfl | hg
     ·have := HC4.out.2.1; omega
     ·have := (HRW4.out.2 g hg).1; omega, by have := HV4.out.2.1; omega, HG4.out.1.2.2.2.size⟩
    have HG5 := hid (HG4.out.below hal)
    have HC5 := hid (HC4.out.below hal)
    have HRW5 := hid (HRW4.out.below hal)
    have HV5 := hid (HV4.out.below hal)
    clear hal HG4 HC4 HRW4 HV4
    go_upto_region 13 with fail
    generalize (w4.alloc (.cells #[.int .u64 0, .int .u32 0, .int .u32 0, .int .i64 0, .int .u64 0, .int .u32 0, .int .u32 0] 35)) = W5 at HZ5 HG5 HC5 HRW5 HV5 ⊢
    generalize w4.heap.size = b13 at HZ5 HN5 ⊢
    have e9 := HC5.out.1.at0
    go_wp2_with fail
    refine (Dt.all th t _ HG5.out.1.1 (by have := HL.out; omega)).mono ?_
    rintro e w6 ⟨A3, n3, c3, rfl, ho, hb, _, _⟩
    obtain rfl : n3 = t.list.length := by have := ho.len; omega
    have HO6 := hid ho.rdi
    clear ho e9
    have HG6 := hid (HG5.out.below hb)
    have HC6 := hid (HC5.out.below hb)
    have HRW6 := hid (HRW5.out.below hb)
    have HV6 := hid (HV5.out.below hb)
    have HZ6 := hid (HZ5.out.below hb)
    clear hb HG5 HC5 HRW5 HV5 HZ5
    have HIN := hid HG6.out.ins
    have HNR := hid HG6.out.2.2
    obtain ⟨D, hD⟩ : ∃ D : Int, D = o % 4 := ⟨_, rfl⟩
    have hD0 : 0 ≤ D := by omega
    have hD4 : D < 4 := by omega
    have t1_ : Int.tmod o 4 = D := by rw [hD, Int.tmod_eq_emod_of_nonneg HIK.out.1.1]
    have t2_ : IntKind.u8.wrap D = D := by rw [IntKind.wrap_u8]; omega
    clear hD
    by_cases hl0 : t.list.length = 0
    ·have hlz : ¬ (0 : Int) < (t.list.length : Int) := by omega
     have HL0 := hid hl0
     clear hl0 HZ6 HO6 HN5
     by_cases hD2 : D < 2
     ·obtain ⟨v0, v1, v2, v3, v4, v5, v6, v7, v8⟩ := HV6.out.1.act9
      have e9 := HC6.out.1.at0
      go_wp2_with fail
      refine (HG6.out.insert x HIK.out.2.2 HNX.out (by have := HL.out; omega)).mono ?_
      rintro e w8 ⟨rfl, t', hl', hg', hc', hn'⟩
      clear v0 v1 v2 v3 v4 v5 v6 v7 v8 e9
      have HG8 := hid hg'
      have HL8 := hid hl'
      have HC8 := hid (HC6.out.on hc' hn')
      have HRW8 := hid (HRW6.out.on hc' hn')
      have HV8 := hid (HV6.out.on hc' hn')
      clear hl' hg' hc' hn' HG6 HC6 HRW6 HV6
      obtain ⟨v0, v1, v2, v3, v4, v5, v6, v7, v8⟩ := HV8.out.1.act9
      go_wp2_with fail
      refine (Law5.of x _).mono ?_
      rintro e w9 ⟨rfl, hb⟩
      clear v0 v1 v2 v3 v4 v5 v6 v7 v8
      have HG9 := hid (HG8.out.below hb)
      have HC9 := hid (HC8.out.below hb)
      have HRW9 := hid (HRW8.out.below hb)
      clear hb HG8 HC8 HRW8
      go_wp2_with fail
      refine (Ref7.insert A1 _ c1 t.list x HIK.out.2.2 _ HRW9.out.1 HIN.out (by have := HL.out; omega) HCP.out).mono ?_
      rintro e w10 ⟨A2, n2, c2, rfl, hr2, hb, hc2, hA2⟩
      have hn2 : n2 = t'.list.length := by rw [HL8.out]; exact hr2.1.symm
      subst hn2
      rw [← HL8.out] at hr2
      have HRWa := hid (Rw.made HG9.out HRW9.out hr2 hb hA2)
      have HGa := hid (HG9.out.below hb)
      have HCa := hid (HC9.out.below hb)
      have HCQ := hid hc2
      have HLk : Hid (t'.list.length ≤ k + 1) := hid (by rw [HL8.out]; have := HL.out; have := @insR_len x t.list; omega)
      clear hr2 hb hc2 hA2 HRW9 HG9 HC9
      have e9 := HCa.out.1.at0
      go_wp2_with fail
      refine (Told.law HGa.out A2 c2 HRWa.out.1 HCQ.out (by have := HLk.out; omega) m HM.out).mono ?_
      rintro e w11 ⟨rfl, hb⟩
      have HGb := hid (HGa.out.below hb)
      have HCb := hid (HCa.out.below hb)
      have HRWb := hid (HRWa.out.below hb)
      clear hb e9 HGa HCa HRWa
      go_wp2_with fail
      go_roundg (n - (k + 1))
      case measure => have := HS.out; omega
      case rel => exact ⟨k + 1, t', A2, c2, rfl, by go_num, by omega, rfl, HLk.out, HCQ.out, HGb.out, HCb.out, HRWb.out⟩
     ·obtain ⟨v0, v1, v2, v3, v4, v5, v6, v7, v8⟩ := HV6.out.1.act9
      have e9 := HC6.out.1.at0
      go_wp2_with fail
      refine (show Calls Tryz.prog 8 #[.pointer (some ⟨th, 0, none⟩)] w6 (Ans (.int .i64 0) w6) by have h8 := Dt.len th t w6 HG6.out.1.1; rw [HL0.out] at h8; exact h8).mono ?_
      rintro e w7 ⟨rfl, hb⟩
      clear v0 v1 v2 v3 v4 v5 v6 v7 v8 e9
      have HG7 := hid (HG6.out.below hb)
      have HC7 := hid (HC6.out.below hb)
      have HRW7 := hid (HRW6.out.below hb)
      have HV7 := hid (HV6.out.below hb)
      clear hb HG6 HC6 HRW6 HV6
      obtain ⟨v0, v1, v2, v3, v4, v5, v6, v7, v8⟩ := HV7.out.1.act9
      have e9 := HC7.out.1.at0
      go_wp2_with fail
      refine (HG7.out.insert x HIK.out.2.2 HNX.out (by have := HL.out; omega)).mono ?_
      rintro e w8 ⟨rfl, t', hl', hg', hc', hn'⟩
      clear v0 v1 v2 v3 v4 v5 v6 v7 v8 e9
      have HG8 := hid hg'
      have HL8 := hid hl'
      have HC8 := hid (HC7.out.on hc' hn')
      have HRW8 := hid (HRW7.out.on hc' hn')
      have HV8 := hid (HV7.out.on hc' hn')
      clear hl' hg' hc' hn' HG7 HC7 HRW7 HV7
      obtain ⟨v0, v1, v2, v3, v4, v5, v6, v7, v8⟩ := HV8.out.1.act9
      go_wp2_with fail
      refine (Law5.of x _).mono ?_
      rintro e w9 ⟨rfl, hb⟩
      clear v0 v1 v2 v3 v4 v5 v6 v7 v8
      have HG9 := hid (HG8.out.below hb)
      have HC9 := hid (HC8.out.below hb)
      have HRW9 := hid (HRW8.out.below hb)
      clear hb HG8 HC8 HRW8
      go_wp2_with fail
      refine (Ref7.insert A1 _ c1 t.list x HIK.out.2.2 _ HRW9.out.1 HIN.out (by have := HL.out; omega) HCP.out).mono ?_
      rintro e w10 ⟨A2, n2, c2, rfl, hr2, hb, hc2, hA2⟩
      have hn2 : n2 = t'.list.length := by rw [HL8.out]; exact hr2.1.symm
      subst hn2
      rw [← HL8.out] at hr2
      have HRWa := hid (Rw.made HG9.out HRW9.out hr2 hb hA2)
      have HGa := hid (HG9.out.below hb)
      have HCa := hid (HC9.out.below hb)
      have HCQ := hid hc2
      have HLk : Hid (t'.list.length ≤ k + 1) := hid (by rw [HL8.out]; have := HL.out; have := @insR_len x t.list; omega)
      clear hr2 hb hc2 hA2 HRW9 HG9 HC9
      have e9 := HCa.out.1.at0
      go_wp2_with fail
      refine (Told.law HGa.out A2 c2 HRWa.out.1 HCQ.out (by have := HLk.out; omega) m HM.out).mono ?_
      rintro e w11 ⟨rfl, hb⟩
      have HGb := hid (HGa.out.below hb)
      have HCb := hid (HCa.out.below hb)
      have HRWb := hid (HRWa.out.below hb)
      clear hb e9 HGa HCa HRWa
      go_wp2_with fail
      go_roundg (n - (k + 1))
      case measure => have := HS.out; omega
      case rel => exact ⟨k + 1, t', A2, c2, rfl, by go_num, by omega, rfl, HLk.out, HCQ.out, HGb.out, HCb.out, HRWb.out⟩
    ·have hlp : (0 : Int) < (t.list.length : Int) := by omega
     obtain ⟨K, hKe⟩ : ∃ K : Nat, (K : Int) = ix % (t.list.length : Int) := ⟨(ix % (t.list.length : Int)).toNat, Int.toNat_of_nonneg (Int.emod_nonneg _ (by omega))⟩
     have hKl : K < t.list.length := by have := Int.emod_lt_of_pos ix hlp; omega
     have t4_ : Int.tmod ix (t.list.length : Int) = (K : Int) := by rw [hKe, Int.tmod_eq_emod_of_nonneg HIK.out.2.1.1]
     have t5_ : ((t.list.length : Int) == 0) = false := by rw [beq_eq_false_iff_ne]; omega
     have t6_ : IntKind.i64.wrap ix = ix := by have := HIK.out.2.1; rw [IntKind.wrap_i64]; omega
     have t7_ : (K : Int) < (t.list.length : Int) := by omega
     have t8_ : (0 : Int) ≤ K := by omega
     have t9_ : IntKind.i64.wrap (K : Int) = K := by have := HL.out; rw [IntKind.wrap_i64]; omega
     clear hKe
     obtain ⟨b3, o3, hA3, _, hc3⟩ := HO6.out.2 0 (by omega)
     obtain ⟨q0, q1, q2, q3, q4, q5, q6⟩ := hc3 K hKl
     have HMY := hid (getD_memI hKl)
     generalize t.list.getD K It.zero = y at q0 q1 q2 q3 q4 q5 q6 HMY
     subst hA3
     have HYI := hid (HIN.out y HMY.out)
     clear hc3 HO6
     obtain ⟨v0, v1, v2, v3, v4, v5, v6, v7, v8⟩ := HV6.out.1.act9
     have e9 := HC6.out.1.at0
     have hth := there_it ⟨It.zero, HZ6.out.1⟩
     have HPT := hid (HG6.out.put HZ6.out HN5.out.2.2 y)
     go_upto_region 16 with (first | ((with_reducible refine wpList_put_it 35 infoItem rfl (.tmp 13) (.tmp 52) rfl b13 0 y hth ?g1 ?g2 ?g3); (case g1 => rfl); (case g2 => rfl); (intro W7 hW7); (have HW := hid (HPT.out W7 hW7)); (clear hW7 hth)) | fail)
     have HG7 := hid HW.out.1
     have HY7 := hid HW.out.2.1
     have HC7 := hid (HC6.out.away HW.out.2.2 (by simp; exact HN5.out.1 _ (Or.inl rfl)))
     have HRW7 := hid (HRW6.out.away HW.out.2.2 (fun g hg => by simp; exact HN5.out.1 g (Or.inr hg)))
     have HV7 := hid (HV6.out.away HW.out.2.2 (by simp; exact HN5.out.2.1))
     clear HW HPT HG6 HC6 HRW6 HV6 HZ6 q0 q1 q2 q3 q4 q5 q6 t4_ t6_ t9_ v0 v1 v2 v3 v4 v5 v6 v7 v8 e9
     obtain ⟨v0, v1, v2, v3, v4, v5, v6, v7, v8⟩ := HV7.out.1.act9
     have e9 := HC7.out.1.at0
     obtain ⟨y0, y1, y2, y3, y4, y5, y6⟩ := HY7.out.1
     by_cases hD2 : D < 2
     ·clear y0 y1 y2 y3 y4 y5 y6 HY7
      go_wp2_with fail
      refine (HG7.out.insert x HIK.out.2.2 HNX.out (by have := HL.out; omega)).mono ?_
      rintro e w8 ⟨rfl, t', hl', hg', hc', hn'⟩
      clear v0 v1 v2 v3 v4 v5 v6 v7 v8 e9
      have HG8 := hid hg'
      have HL8 := hid hl'
      have HC8 := hid (HC7.out.on hc' hn')
      have HRW8 := hid (HRW7.out.on hc' hn')
      have HV8 := hid (HV7.out.on hc' hn')
      clear hl' hg' hc' hn' HG7 HC7 HRW7 HV7
      obtain ⟨v0, v1, v2, v3, v4, v5, v6, v7, v8⟩ := HV8.out.1.act9
      go_wp2_with fail
      refine (Law5.of x _).mono ?_
      rintro e w9 ⟨rfl, hb⟩
      clear v0 v1 v2 v3 v4 v5 v6 v7 v8
      have HG9 := hid (HG8.out.below hb)
      have HC9 := hid (HC8.out.below hb)
      have HRW9 := hid (HRW8.out.below hb)
      clear hb HG8 HC8 HRW8
      go_wp2_with fail
      refine (Ref7.insert A1 _ c1 t.list x HIK.out.2.2 _ HRW9.out.1 HIN.out (by have := HL.out; omega) HCP.out).mono ?_
      rintro e w10 ⟨A2, n2, c2, rfl, hr2, hb, hc2, hA2⟩
      have hn2 : n2 = t'.list.length := by rw [HL8.out]; exact hr2.1.symm
      subst hn2
      rw [← HL8.out] at hr2
      have HRWa := hid (Rw.made HG9.out HRW9.out hr2 hb hA2)
      have HGa := hid (HG9.out.below hb)
      have HCa := hid (HC9.out.below hb)
      have HCQ := hid hc2
      have HLk : Hid (t'.list.length ≤ k + 1) := hid (by rw [HL8.out]; have := HL.out; have := @insR_len x t.list; omega)
      clear hr2 hb hc2 hA2 HRW9 HG9 HC9
      have e9 := HCa.out.1.at0
      go_wp2_with fail
      refine (Told.law HGa.out A2 c2 HRWa.out.1 HCQ.out (by have := HLk.out; omega) m HM.out).mono ?_
      rintro e w11 ⟨rfl, hb⟩
      have HGb := hid (HGa.out.below hb)
      have HCb := hid (HCa.out.below hb)
      have HRWb := hid (HRWa.out.below hb)
      clear hb e9 HGa HCa HRWa
      go_wp2_with fail
      go_roundg (n - (k + 1))
      case measure => have := HS.out; omega
      case rel => exact ⟨k + 1, t', A2, c2, rfl, by go_num, by omega, rfl, HLk.out, HCQ.out, HGb.out, HCb.out, HRWb.out⟩
     ·go_wp2_with fail
      refine (Dt.len th t _ HG7.out.1.1).mono ?_
      rintro e w7 ⟨rfl, hb⟩
      clear v0 v1 v2 v3 v4 v5 v6 v7 v8 e9 y0 y1 y2 y3 y4 y5 y6
      have HGc := hid (HG7.out.below hb)
      have HCc := hid (HC7.out.below hb)
      have HRWc := hid (HRW7.out.below hb)
      have HVc := hid (HV7.out.below hb)
      have HYc := hid (HY7.out.below hb)
      clear hb HG7 HC7 HRW7 HV7 HY7
      obtain ⟨v0, v1, v2, v3, v4, v5, v6, v7, v8⟩ := HVc.out.1.act9
      have e9 := HCc.out.1.at0
      obtain ⟨y0, y1, y2, y3, y4, y5, y6⟩ := HYc.out.1
      by_cases hDE : D = 2
      ·subst hDE
       go_wp2_with fail
       refine (HGc.out.delete y HMY.out (by have := HL.out; omega)).mono ?_
       rintro e w8 ⟨rfl, t', hl', hg', hc', hn'⟩
       clear v0 v1 v2 v3 v4 v5 v6 v7 v8 e9 y0 y1 y2 y3 y4 y5 y6
       have HG8 := hid hg'
       have HL8 := hid hl'
       have HC8 := hid (HCc.out.on hc' hn')
       have HRW8 := hid (HRWc.out.on hc' hn')
       have HY8 := hid (HYc.out.on hc' hn')
       clear hl' hg' hc' hn' HGc HCc HRWc HYc
       obtain ⟨y0, y1, y2, y3, y4, y5, y6⟩ := HY8.out.1
       go_wp2_with fail
       refine (Law5.of y _).mono ?_
       rintro e w9 ⟨rfl, hb⟩
       clear y0 y1 y2 y3 y4 y5 y6
       have HG9 := hid (HG8.out.below hb)
       have HC9 := hid (HC8.out.below hb)
       have HRW9 := hid (HRW8.out.below hb)
       clear hb HG8 HC8 HRW8
       go_wp2_with fail
       refine (Ref7.delete A1 _ c1 t.list y HYI.out _ HRW9.out.1 HIN.out (by have := HL.out; omega)).mono ?_
       rw [delI_less HNR.out HMY.out]
       rintro e w10 ⟨A2, n2, c2, rfl, hr2, hb, hc2, hA2⟩
       have hn2 : n2 = t'.list.length := by rw [HL8.out]; exact hr2.1.symm
       subst hn2
       rw [← HL8.out] at hr2
       have HRWa := hid (Rw.made HG9.out HRW9.out hr2 hb hA2)
       have HGa := hid (HG9.out.below hb)
       have HCa := hid (HC9.out.below hb)
       have HCQ := hid hc2
       have HLk : Hid (t'.list.length ≤ k + 1) := hid (by rw [HL8.out]; have := HL.out; have := @delI_len y t.list; omega)
       clear hr2 hb hc2 hA2 HRW9 HG9 HC9
       have e9 := HCa.out.1.at0
       go_wp2_with fail
       refine (Told.law HGa.out A2 c2 HRWa.out.1 HCQ.out (by have := HLk.out; omega) m HM.out).mono ?_
       rintro e w11 ⟨rfl, hb⟩
       have HGb := hid (HGa.out.below hb)
       have HCb := hid (HCa.out.below hb)
       have HRWb := hid (HRWa.out.below hb)
       clear hb e9 HGa HCa HRWa
       go_wp2_with fail
       go_roundg (n - (k + 1))
       case measure => have := HS.out; omega
       case rel => exact ⟨k + 1, t', A2, c2, rfl, by go_num, by omega, rfl, HLk.out, HCQ.out, HGb.out, HCb.out, HRWb.out⟩
      ·have hDE3 : D = 3 := by omega
       clear hDE
       subst hDE3
       go_wp2_with fail
       refine (HGc.out.replace y x HMY.out HIK.out.2.2 HNX.out (by have := HL.out; omega)).mono ?_
       rintro e w8 ⟨rfl, t', hl', hg', hc', hn'⟩
       clear v0 v1 v2 v3 v4 v5 v6 v7 v8 e9 y0 y1 y2 y3 y4 y5 y6
       have HG8 := hid hg'
       have HL8 := hid hl'
       have HC8 := hid (HCc.out.on hc' hn')
       have HRW8 := hid (HRWc.out.on hc' hn')
       have HY8 := hid (HYc.out.on hc' hn')
       have HV8 := hid (HVc.out.on hc' hn')
       clear hl' hg' hc' hn' HGc HCc HRWc HYc HVc
       go_upto_region 18 with fail
       have hsT1 : Stays (fun wx => Below w8.heap.size w8 wx) := fun _ _ h hb => below_on h hb
       refine wp_region_grow (S := fun wx => Below w8.heap.size w8 wx) 12 (by kernel_rfl) (hsT1 _ _ ((Below.refl w8.heap.size w8)) (Below.refl _ _).drew) ?_
       refine tF 0 (hsT1) (fun _ h => h) ?_
       try simp only [tdy]
       refine tE 1 (v := ?_) (hsT1) (fun _ h => h) rfl (by kernel_rfl) (by rfl) ?_ ?_
       rotate_left
       ·intro wq hSw
        obtain ⟨v0, v1, v2, v3, v4, v5, v6, v7, v8⟩ := (HV8.out.below hSw).1.act9
        obtain ⟨y0, y1, y2, y3, y4, y5, y6⟩ := (HY8.out.below hSw).1
        go_simp; try with_reducible rfl
       try simp only [tdy]
       refine tC 2 (v := y.val) (hsT1) (fun _ h => h) (fun wq hSw => Law5.of y wq) ?_
       try simp only [tdy]
       refine tF 3 (hsT1) (fun _ h => h) ?_
       try simp only [tdy]
       refine tE 4 (v := ?_) (hsT1) (fun _ h => h) rfl (by kernel_rfl) (by rfl) ?_ ?_
       rotate_left
       ·intro wq hSw
        obtain ⟨v0, v1, v2, v3, v4, v5, v6, v7, v8⟩ := (HV8.out.below hSw).1.act9
        obtain ⟨y0, y1, y2, y3, y4, y5, y6⟩ := (HY8.out.below hSw).1
        go_simp; try with_reducible rfl
       try simp only [tdy]
       refine tC 5 (v := x.val) (hsT1) (fun _ h => h) (fun wq hSw => Law5.of x wq) ?_
       try simp only [tdy]
       refine wpAnyE_call (i := 6) (fun r7 : Option Addr × Nat × Nat => .tuple #[.slice r7.1 r7.2.1 r7.2.2, .bool (repO y x t.list)]) (Rp7 w8.heap.size A1 (repR y x t.list)) rfl (by kernel_rfl) (by decide) (by rfl) (hsT1) (fun _ h => h) (fun yq => Rp7.st w8.heap.size A1 (repR y x t.list) yq) (fun wq hSw => ?_) (fun yq => ?_)
       ·exact RunI.of_calls (Ref7.replaceN A1 _ c1 t.list y x HYI.out HIK.out.2.2 wq (HRW8.out.1.below hSw) HIN.out (by have := HL.out; omega) HCP.out (delI_less HNR.out HMY.out) w8.heap.size hSw.size) (by go_simp) (fun e w' h => h)
       obtain ⟨A2, n2, c2⟩ := yq
       try dsimp only
       try simp only [tdy]
       refine tF 7 (Stays.and_ (hsT1) (Rp7.st w8.heap.size A1 (repR y x t.list) (A2, n2, c2))) (fun _ h => h.1) ?_
       try simp only [tdy]
       refine tF 8 (Stays.and_ (hsT1) (Rp7.st w8.heap.size A1 (repR y x t.list) (A2, n2, c2))) (fun _ h => h.1) ?_
       try simp only [tdy]
       refine tF 9 (Stays.and_ (hsT1) (Rp7.st w8.heap.size A1 (repR y x t.list) (A2, n2, c2))) (fun _ h => h.1) ?_
       try simp only [tdy]
       refine tF 10 (Stays.and_ (hsT1) (Rp7.st w8.heap.size A1 (repR y x t.list) (A2, n2, c2))) (fun _ h => h.1) ?_
       try simp only [tdy]
       refine tF 11 (Stays.and_ (hsT1) (Rp7.st w8.heap.size A1 (repR y x t.list) (A2, n2, c2))) (fun _ h => h.1) ?_
       try simp only [tdy]
       refine wpAnyE_done (by kernel_rfl) (fun wz hSz => ?_) _
       obtain ⟨hb, hr2, hc2, hA2⟩ := hSz
       dsimp only at hr2 hc2 hA2
       have hn2 : n2 = t'.list.length := by rw [HL8.out]; exact hr2.1.symm
       subst hn2
       rw [← HL8.out] at hr2
       have HRWa := hid (Rw.made HG8.out HRW8.out hr2 hb hA2)
       have HGa := hid (HG8.out.below hb)
       have HCa := hid (HC8.out.below hb)
       have HCQ := hid hc2
       have HLk : Hid (t'.list.length ≤ k + 1) := hid (by rw [HL8.out]; have := HL.out; have := @repR_len y x t.list; omega)
       clear hr2 hb hc2 hA2 HRW8 HG8 HC8
       have e9 := HCa.out.1.at0
       go_wp2_with fail
       refine (Told.law HGa.out A2 c2 HRWa.out.1 HCQ.out (by have := HLk.out; omega) m HM.out).mono ?_
       rintro e w11 ⟨rfl, hb⟩
       have HGb := hid (HGa.out.below hb)
       have HCb := hid (HCa.out.below hb)
       have HRWb := hid (HRWa.out.below hb)
       clear hb e9 HGa HCa HRWa
       go_wp2_with fail
       go_roundg (n - (k + 1))
       case measure => have := HS.out; omega
       case rel => exact ⟨k + 1, t', A2, c2, rfl, by go_num, by omega, rfl, HLk.out, HCQ.out, HGb.out, HCb.out, HRWb.out⟩
  ·obtain rfl : k = n := by omega
   have hki : ¬ (k : Int) < k := by omega
   have HIN := hid HG.out.ins
   have HNR := hid HG.out.2.2
   clear HR1 HI HLN HS
   have e9 := HC.out.1.at0
   go_wp2_with fail
   refine (Dtree.clone7 th t (by have := HL.out; omega) _ HG.out.1.1).mono ?_
   rintro e w3 ⟨tc, u, rfl, hsm, htc, hge, hb⟩
   have HGu : Hid (GW t0 wr tc u w3) := hid ⟨⟨htc, hge tc (by simp), fun g hg => hge g (List.mem_cons_of_mem _ hg), hb⟩, hsm.whole HG.out.2.1, by rw [hsm.list]; exact HG.out.2.2⟩
   have HUL : Hid (u.list = t.list) := hid hsm.list
   have hal := (Below.refl w3.heap.size w3).alloc (Nat.le_refl _) (.cells #[.pointer (some ⟨tc, 0, none⟩)] 27)
   have HCu : Hid (Ct tc u w3.heap.size [.pointer (some ⟨tc, 0, none⟩)] (w3.alloc (.cells #[.pointer (some ⟨tc, 0, none⟩)] 27))) := hid (HGu.out.ct (Nat.le_refl _) (Cs.alloc_new w3 27 [.pointer (some ⟨tc, 0, none⟩)]))
   have HGv := hid (HGu.out.below hal)
   clear hal hsm htc hge hb e9 HGu
   go_upto_region 29 with fail
   generalize (w3.alloc (.cells #[.pointer (some ⟨tc, 0, none⟩)] 27)) = W3 at HCu HGv ⊢
   generalize w3.heap.size = b17 at HCu ⊢
   have e9 := keep1 HGv.out.1.2.2.2 HC.out.1.at0
   go_wp2_with fail
   refine (Dtree.shift th t d _ (HG.out.1.1.below HGv.out.1.2.2.2) HIN.out (by have := HL.out; omega)).mono ?_
   rintro e w4 ⟨ts, v, rfl, hbv, hgv⟩
   have HVL : Hid (v.list = t.list.map (It.shift d)) := hid (hbv.ordered (t0 := IntKind.u64.wrap (t0 + d)) (HNR.out.nr.shift d) (HNR.out.1.shift d))
   have HTV := hid hgv.1
   have hb := hgv.2.2.2
   have HCv := hid (HCu.out.below hb)
   have HGw := hid (HGv.out.below hb)
   clear hbv hgv hb HCu HGv e9
   have hfd : ∀ (b : Nat) (w : World), (Instr.field 27 (.agg #[.pointer (some ⟨b, 0, none⟩)]) 0).run Tryz.prog w = .ok (.pointer (some ⟨b, 0, none⟩)) w := fun _ _ => by kernel_rfl
   go_wp2_with fail
   refine (Dt.all ts v _ HTV.out (by rw [HVL.out, List.length_map]; have := HL.out; omega)).mono ?_
   rintro e w5 ⟨A3, n3, c3, rfl, ho, hb, _, _⟩
   have HRA : Hid (Rw tc u A3 n3 (t.list.map (It.shift d)) w5) := hid ⟨by have := ho.rdi; rwa [HVL.out] at this, fun g hg => HGw.out.kp (ho.rowGe g hg).1 (ho.rowGe g hg).2⟩
   have HN3 : Hid (n3 = t.list.length) := hid (by have := ho.len; rw [HVL.out, List.length_map] at this; exact this.symm)
   have HCx := hid (HCv.out.below hb)
   have HGx := hid (HGw.out.below hb)
   clear ho hb HCv HGw HTV HVL hfd
   have e7 := HCx.out.1.at0
   go_wp2_with fail
   refine (Dt.all tc u _ HGx.out.1.1 (by rw [HUL.out]; have := HL.out; omega)).mono ?_
   rintro e w6 ⟨A4, n4, c4, rfl, ho, hb, _, _⟩
   have HRB : Hid (Rw tc u A4 n4 t.list w6) := hid ⟨by have := ho.rdi; rwa [HUL.out] at this, fun g hg => HGx.out.kp (ho.rowGe g hg).1 (ho.rowGe g hg).2⟩
   have HN4 : Hid (n4 = t.list.length) := hid (by have := ho.len; rw [HUL.out] at this; exact this.symm)
   have HRA6 := hid (HRA.out.below hb)
   have HC6 := hid (HCx.out.below hb)
   have HG6 := hid (HGx.out.below hb)
   clear ho hb e7 HRA HCx HGx
   go_wp2_with fail
   go_loopg [130] n4 (fun s i wy => ∃ (j : Nat) (u : Tr It), i = .int .i64 j ∧ j ≤ n4 ∧ s = n4 - j ∧ u.list = t.list.drop j ∧ GW t0 wr tc u wy ∧ Ct tc u b17 [.pointer (some ⟨tc, 0, none⟩)] wy ∧ Rw tc u A3 n3 (t.list.map (It.shift d)) wy ∧ Rw tc u A4 n4 t.list wy)
   case atStart => exact ⟨0, u, rfl, Nat.zero_le _, by omega, by rw [HUL.out]; rfl, HG6.out, HC6.out, HRA6.out, HRB.out⟩
   case round =>
    clear HUL HG6 HC6 HRA6 HRB
    obtain ⟨j, u, rfl, hj, hs, hu, hg, hc, ha, hb⟩ := hrel
    have HS := hid hs
    have HU := hid hu
    have HGy := hid hg
    have HCy := hid hc
    have HAy := hid ha
    have HBy := hid hb
    clear hs hu hg hc ha hb
    rename World => wy
    by_cases hjn : j < n4
    ·obtain ⟨b4, o4, hA4, _, hc4⟩ := HBy.out.1.2 0 (by omega)
     obtain ⟨p0, p1, p2, p3, p4, p5, p6⟩ := hc4 j hjn
     obtain ⟨b3, o3, hA3, _, hc3⟩ := HAy.out.1.2 0 (by have := HN3.out; have := HN4.out; omega)
     have HZ3 := hid (hc3 j (by have := HN3.out; have := HN4.out; omega))
     have HJL : Hid (j < t.list.length) := hid (by have := HN4.out; omega)
     have HMY := hid (getD_memI HJL.out)
     have HDR := hid (drop_itD HJL.out)
     rw [shift_getD d HJL.out] at HZ3
     generalize t.list.getD j It.zero = y at p0 p1 p2 p3 p4 p5 p6 HMY HDR HZ3
     obtain ⟨z, hz⟩ : ∃ z, z = It.shift d y := ⟨_, rfl⟩
     rw [← hz] at HZ3
     have HZE := hid hz
     have hA3' := HAy.out.2
     clear hz hc3 hc4
     have HRX := hid (And.intro hA3 hA4)
     have hji : (j : Int) < n4 := by omega
     have hj60 : (n4 : Int) ≤ 60 := by have := HN4.out; have := HL.out; omega
     have hj0 : (0 : Int) ≤ j := by omega
     have hj3 : (j : Int) < n3 := by have := HN3.out; have := HN4.out; omega
     clear hA3'
     have hal := (Below.refl wy.heap.size wy).alloc (Nat.le_refl _) (.cells #[.int .u64 y.t, .int .u32 y.r, .int .u32 y.v, .int .i64 y.i, .int .u64 y.u, .int .u32 y.s, .int .u32 y.y] 35)
     have HY : Hid (Tk tc u wy.heap.size y (wy.alloc (.cells #[.int .u64 y.t, .int .u32 y.r, .int .u32 y.v, .int .i64 y.i, .int .u64 y.u, .int .u32 y.s, .int .u32 y.y] 35))) := hid ⟨(Cs.new7 wy 35 y).th7, HGy.out.kp (Nat.le_refl _) (Cs.new7 wy 35 y).lt7⟩
     have HGz := hid (HGy.out.below hal)
     have HCz := hid (HCy.out.below hal)
     have HAz := hid (HAy.out.below hal)
     have HBz := hid (HBy.out.below hal)
     have HZ4 := hid (HZ3.out.below hal)
     clear hal HGy HCy HAy HBy HZ3
     subst hA4
     go_upto_region 33 with fail
     generalize (wy.alloc (.cells #[.int .u64 y.t, .int .u32 y.r, .int .u32 y.v, .int .i64 y.i, .int .u64 y.u, .int .u32 y.s, .int .u32 y.y] 35)) = W7 at HY HGz HCz HAz HBz HZ4 ⊢
     clear p0 p1 p2 p3 p4 p5 p6
     generalize wy.heap.size = b20 at HY ⊢
     subst hA3
     have hsT2 : Stays (fun wx => Below W7.heap.size W7 wx) := fun _ _ h hb => below_on h hb
     refine wp_region_grow (S := fun wx => Below W7.heap.size W7 wx) 12 (by kernel_rfl) (hsT2 _ _ ((Below.refl W7.heap.size W7)) (Below.refl _ _).drew) ?_
     refine tF 0 (hsT2) (fun _ h => h) ?_
     try simp only [tdy]
     refine tF 1 (hsT2) (fun _ h => h) ?_
     try simp only [tdy]
     refine tF 2 (hsT2) (fun _ h => h) ?_
     try simp only [tdy]
     refine tE 3 (v := ?_) (hsT2) (fun _ h => h) rfl (by kernel_rfl) (by rfl) ?_ ?_
     rotate_left
     ·intro wq hSw
      obtain ⟨y0, y1, y2, y3, y4, y5, y6⟩ := (HY.out.below hSw).1
      obtain ⟨p0, p1, p2, p3, p4, p5, p6⟩ := HZ4.out.below hSw
      have e7 := (HCz.out.below hSw).1.at0
      go_simp; try with_reducible rfl
     try simp only [tdy]
     refine tE 4 (v := ?_) (hsT2) (fun _ h => h) rfl (by kernel_rfl) (by rfl) ?_ ?_
     rotate_left
     ·intro wq hSw
      obtain ⟨y0, y1, y2, y3, y4, y5, y6⟩ := (HY.out.below hSw).1
      obtain ⟨p0, p1, p2, p3, p4, p5, p6⟩ := HZ4.out.below hSw
      have e7 := (HCz.out.below hSw).1.at0
      go_simp; try with_reducible rfl
     try simp only [tdy]
     refine tF 5 (hsT2) (fun _ h => h) ?_
     try simp only [tdy]
     refine tC 6 (v := z.val) (hsT2) (fun _ h => h) (fun wq hSw => show Calls Tryz.prog 19 #[y.val, .int .u64 d] wq (Ans z.val wq) by rw [HZE.out]; exact Item.shift y d wq) ?_
     try simp only [tdy]
     refine tF 7 (hsT2) (fun _ h => h) ?_
     try simp only [tdy]
     refine tF 8 (hsT2) (fun _ h => h) ?_
     try simp only [tdy]
     refine tF 9 (hsT2) (fun _ h => h) ?_
     try simp only [tdy]
     refine tE 10 (v := ?_) (hsT2) (fun _ h => h) rfl (by kernel_rfl) (by rfl) ?_ ?_
     rotate_left
     ·intro wq hSw
      obtain ⟨y0, y1, y2, y3, y4, y5, y6⟩ := (HY.out.below hSw).1
      obtain ⟨p0, p1, p2, p3, p4, p5, p6⟩ := HZ4.out.below hSw
      have e7 := (HCz.out.below hSw).1.at0
      go_simp; try with_reducible rfl
     try simp only [tdy]
     refine tE 11 (v := ?_) (hsT2) (fun _ h => h) rfl (by kernel_rfl) (by rfl) ?_ ?_
     rotate_left
     ·intro wq hSw
      obtain ⟨y0, y1, y2, y3, y4, y5, y6⟩ := (HY.out.below hSw).1
      obtain ⟨p0, p1, p2, p3, p4, p5, p6⟩ := HZ4.out.below hSw
      have e7 := (HCz.out.below hSw).1.at0
      go_simp; try with_reducible rfl
     try simp only [tdy]
     refine wpAnyE_rest (n := 12) rfl rfl (by kernel_rfl) (fun wz hSz => ?_)
     simp only [List.toList_toArray, List.drop_succ_cons, List.drop_zero]
     have hb := hSz
     clear hSz
     have HGq := hid (HGz.out.below hb)
     have HCq := hid (HCz.out.below hb)
     have HAq := hid (HAz.out.below hb)
     have HBq := hid (HBz.out.below hb)
     clear hb HGz HCz HAz HBz HY HZ4
     go_wp2_with fail
     refine (HGq.out.delete y (by rw [HU.out, HDR.out]; simp) (by rw [HU.out, List.length_drop]; have := HL.out; omega)).mono ?_
     rintro e w8 ⟨rfl, u', hl', hg', hc', hn'⟩
     have HUL : Hid (u'.list = t.list.drop (j + 1)) := hid (by
      have h9 := HGq.out.2.2
      rw [HU.out, HDR.out] at h9
      rw [hl', HU.out, HDR.out, delI_cons h9])
     have HG8 := hid hg'
     have HC8 := hid (HCq.out.on hc' hn')
     have HA8 := hid (HAq.out.on hc' hn')
     have HB8 := hid (HBq.out.on hc' hn')
     clear hl' hg' hc' hn' HGq HCq HAq HBq
     go_wp2_with fail
     go_roundg (n4 - (j + 1))
     case measure => have := HS.out; omega
     case rel => exact ⟨j + 1, u', by go_num, by omega, rfl, HUL.out, HG8.out, HC8.out, HA8.out, HB8.out⟩
    ·obtain rfl : j = n4 := by omega
     have hji : ¬ (j : Int) < j := by omega
     have HU0 : Hid (u.list.length = 0) := hid (by rw [HU.out, List.length_drop]; have := HN4.out; omega)
     have e7 := HCy.out.1.at0
     go_wp2_with fail
     refine (Dt.len tc u _ HGy.out.1.1).mono ?_
     rw [HU0.out]
     rintro e w8 ⟨rfl, hb⟩
     have HG9 := hid (HGy.out.below hb)
     clear hb e7
     have e9 := keep1 HG9.out.1.2.2.2 HC.out.1.at0
     obtain rfl := HN3.out
     go_wp2_with fail
     refine (Told.law (HG.out.below HG9.out.1.2.2.2) A1 c1 (HRW.out.1.below HG9.out.1.2.2.2) HCP.out (by have := HL.out; omega) m HM.out).mono ?_
     rintro e w9 ⟨rfl, hb⟩
     have HBF := hid (below_on (below_on (below_on HB1.out HG.out.1.2.2.2) HG9.out.1.2.2.2) hb)
     clear hb e9
     go_wp2_with fail
     go_ret
     exact ⟨rfl, HBF.out⟩
theorem Dplays.law (t0 d : Int) (A : Option Addr) (n c : Nat) (ps : List (Int × Int × It)) (m : Int) (w : World) (h : (RdA7 w A n ps ∧ InA7 ps) ∧ n ≤ 9223372036854775807) (hm : (Lit.int .u8 m).wf = true) : Calls Tryz.prog 3 #[.int .u64 t0, .int .u64 d, .slice A n c, .int .u8 m] w (Ans (.bool true) w) := by
 have hm0 : 0 ≤ m ∧ m ≤ 255 := by
  simp [Lit.wf, IntKind.min, IntKind.max, IntKind.signed, IntKind.bits] at hm
  omega
 by_cases hn : n ≤ 60
 ·exact Dplays.core t0 d A n c m ps hm0 hn w h.1.1 h.1.2
 ·exact Dplays.away t0 d A n c m (by omega) w
end

end Go.Proofs.YtbcepkfdlaioaaaGreat

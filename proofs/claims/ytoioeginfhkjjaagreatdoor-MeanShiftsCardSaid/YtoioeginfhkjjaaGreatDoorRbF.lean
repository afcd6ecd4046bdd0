/- The tree of numbers: balance. -/
import Derived.Test.YtoioeginfhkjjaaGreatDoorMeanShiftsZ35
namespace Go.Proofs.YtoioeginfhkjjaaGreatDoor
open Go.RowKit

/-- What a call answers that turns a tree, and counts it. -/
def Turned (t' : Tr Int) (F : List Nat) (w : World) (e : Ending) (w' : World) : Prop := e = .returned (ptr t') ∧ In w' t' ∧ Chg F w w'
theorem Env.turned {w w' : World} {t : Tr Int} {th : Nat} {rt : Value} {n : Int} (he : Env w th rt n) (h : St w t) (hc : Chg t.blocks w w') : Env w' th rt n := he.chg hc h.nl

set_option maxRecDepth 100000 in
set_option maxHeartbeats 1000000 in
theorem Rb.bal_d (g : Nat) (c : Bool) (l r : Tr Int) (x : Int) (th : Nat) (rt : Value) (n : Int) (w : World) (hst : St w (.node g c l x r)) (hd : (Tr.node g c l x r).blocks.Nodup)
    (hn : (Tr.node g c l x r).list.length ≤ 900000) (he : Env w th rt n) (hlr : l.red = false) (hrr : r.red = false) :
    Calls Tryz.prog 177 #[.pointer (some ⟨th, 0, none⟩), .pointer (some ⟨g, 0, none⟩)] w (Turned (.node g c l x r) (Tr.node g c l x r).blocks w) := by
  have HS := hid hst
  have HE := hid he
  have HD := hid hd
  have HN := hid hn
  obtain ⟨⟨A, m, k, hc⟩, hl, hr⟩ := hst
  have c2 := hc.at2
  have c3 := hc.at3
  have HL := hid hl
  have HR := hid hr
  clear hc hl hr hd hn he
  try simp only [ptr_node] at c2 c3
  have HLR := hid hlr
  have HRR := hid hrr
  clear hlr hrr
  go_enter Tryz.func177, Tryz.ntmps177
  go_wp2_with fail
  refine (Rb.isRed (r) _ (HR.out.st)).mono ?_
  rintro e0 w0 ⟨rfl, rfl⟩
  rw [HRR.out]
  go_wp2_with fail
  refine (Rb.isRed (l) _ (HL.out.st)).mono ?_
  rintro e0 w0 ⟨rfl, rfl⟩
  rw [HLR.out]
  go_wp2_with fail
  refine (Rb.isRed (l) _ (HL.out.st)).mono ?_
  rintro e0 w0 ⟨rfl, rfl⟩
  rw [HLR.out]
  go_wp2_with fail
  refine (Rb.count th g c (l) (r) x rt n _ (HS.out) (HD.out) (HN.out) (HE.out)).mono ?_
  rintro e9 w9 ⟨rfl, hi9, hw9⟩
  have HI9 := hid hi9
  have HW9 := hid hw9
  clear hi9 hw9
  go_wp2_with fail
  go_ret
  exact ⟨rfl, HI9.out, HW9.out.mono (by simp [Tr.blocks])⟩

set_option maxRecDepth 100000 in
set_option maxHeartbeats 1000000 in
theorem Rb.bal_a1 (g h : Nat) (c : Bool) (l a b : Tr Int) (x y : Int) (th : Nat) (rt : Value) (n : Int) (w : World) (hst : St w (.node g c l x (.node h true a y b))) (hd : (Tr.node g c l x (.node h true a y b)).blocks.Nodup)
    (hn : (Tr.node g c l x (.node h true a y b)).list.length ≤ 900000) (he : Env w th rt n) (hlr : l.red = false) (hbr : b.red = false) :
    Calls Tryz.prog 177 #[.pointer (some ⟨th, 0, none⟩), .pointer (some ⟨g, 0, none⟩)] w (Turned (.node h c (.node g true l x a) y b) (Tr.node g c l x (.node h true a y b)).blocks w) := by
  have HS := hid hst
  have HE := hid he
  have HD := hid hd
  have HN := hid hn
  obtain ⟨⟨A, m, k, hc⟩, hl, hr⟩ := hst
  have c2 := hc.at2
  have c3 := hc.at3
  have HC := hid hc
  have HL := hid hl
  have HR := hid hr
  clear hc hl hr hd hn he
  try simp only [ptr_node] at c2 c3
  have HLR := hid hlr
  have HBR := hid hbr
  clear hlr hbr
  go_enter Tryz.func177, Tryz.ntmps177
  go_wp2_with fail
  refine (Rb.isRed (.node h true a y b) _ (HR.out.st)).mono ?_
  rintro e0 w0 ⟨rfl, rfl⟩
  simp only [Tr.red]
  go_wp2_with fail
  refine (Rb.isRed (l) _ (HL.out.st)).mono ?_
  rintro e0 w0 ⟨rfl, rfl⟩
  rw [HLR.out]
  go_wp2_with fail
  refine (Rb.turnLeft th g h c true l a b x y rt n _ ⟨⟨A, m, k, HC.out⟩, HL.out, HR.out.st⟩ HD.out HN.out HE.out).mono ?_
  rintro e1 w1 ⟨rfl, hs1, hw1⟩
  have HE1 := hid (HE.out.turned HS.out hw1)
  have HS1 := hid hs1
  have HW1 := hid hw1
  obtain ⟨⟨A1, m1, k1, hc1⟩, hl1, hr1⟩ := hs1
  have z2 := hc1.at2
  have z3 := hc1.at3
  have HL1 := hid hl1
  have HR1 := hid hr1
  obtain ⟨⟨v1, hv1, hcl1⟩, hll1, _⟩ := hl1
  have z4 := hcl1.at2
  have HLL1 := hid hll1
  clear hc1 hr1 hv1 hcl1 hll1 hw1 c2 c3
  try simp only [ptr_node] at z2 z3
  go_wp2_with fail
  refine (Rb.isRed (.node g true l x a) _ (HL1.out.st)).mono ?_
  rintro e0 w0 ⟨rfl, rfl⟩
  simp only [Tr.red]
  go_wp2_with fail
  refine (Rb.isRed (l) _ (HLL1.out.st)).mono ?_
  rintro e0 w0 ⟨rfl, rfl⟩
  rw [HLR.out]
  go_wp2_with fail
  refine (Rb.isRed (.node g true l x a) _ (HL1.out.st)).mono ?_
  rintro e0 w0 ⟨rfl, rfl⟩
  simp only [Tr.red]
  go_wp2_with fail
  refine (Rb.isRed (b) _ (HR1.out.st)).mono ?_
  rintro e0 w0 ⟨rfl, rfl⟩
  rw [HBR.out]
  go_wp2_with fail
  refine (Rb.count th h c (.node g true l x a) (b) y rt n _ (HS1.out) ((Tr.perm_turnLeft (Tr.node g c l x (.node h true a y b))).nodup_iff.2 HD.out) (Nat.le_trans (Nat.le_of_eq (congrArg List.length (Tr.list_turnLeft (Tr.node g c l x (.node h true a y b))))) HN.out) (HE1.out)).mono ?_
  rintro e9 w9 ⟨rfl, hi9, hw9⟩
  have HI9 := hid hi9
  have HW9 := hid hw9
  clear hi9 hw9
  go_wp2_with fail
  go_ret
  exact ⟨rfl, HI9.out, HW1.out.trans HW9.out (fun j hj => Or.inl ((Tr.perm_turnLeft (Tr.node g c l x (.node h true a y b))).mem_iff.1 (by simp at hj; subst hj; simp [Tr.turnLeft, Tr.blocks])))⟩

set_option maxRecDepth 100000 in
set_option maxHeartbeats 1000000 in
theorem Rb.bal_a2 (g h gb : Nat) (c : Bool) (l a lb rb : Tr Int) (x y z : Int) (th : Nat) (rt : Value) (n : Int) (w : World) (hst : St w (.node g c l x (.node h true a y (.node gb true lb z rb)))) (hd : (Tr.node g c l x (.node h true a y (.node gb true lb z rb))).blocks.Nodup)
    (hn : (Tr.node g c l x (.node h true a y (.node gb true lb z rb))).list.length ≤ 900000) (he : Env w th rt n) (hlr : l.red = false) :
    Calls Tryz.prog 177 #[.pointer (some ⟨th, 0, none⟩), .pointer (some ⟨g, 0, none⟩)] w (Turned (.node h (!c) (.node g false l x a) y (.node gb false lb z rb)) (Tr.node g c l x (.node h true a y (.node gb true lb z rb))).blocks w) := by
  have HS := hid hst
  have HE := hid he
  have HD := hid hd
  have HN := hid hn
  obtain ⟨⟨A, m, k, hc⟩, hl, hr⟩ := hst
  have c2 := hc.at2
  have c3 := hc.at3
  have HC := hid hc
  have HL := hid hl
  have HR := hid hr
  clear hc hl hr hd hn he
  try simp only [ptr_node] at c2 c3
  have HLR := hid hlr
  clear hlr
  go_enter Tryz.func177, Tryz.ntmps177
  go_wp2_with fail
  refine (Rb.isRed (.node h true a y (.node gb true lb z rb)) _ (HR.out.st)).mono ?_
  rintro e0 w0 ⟨rfl, rfl⟩
  simp only [Tr.red]
  go_wp2_with fail
  refine (Rb.isRed (l) _ (HL.out.st)).mono ?_
  rintro e0 w0 ⟨rfl, rfl⟩
  rw [HLR.out]
  go_wp2_with fail
  refine (Rb.turnLeft th g h c true l a (.node gb true lb z rb) x y rt n _ ⟨⟨A, m, k, HC.out⟩, HL.out, HR.out.st⟩ HD.out HN.out HE.out).mono ?_
  rintro e1 w1 ⟨rfl, hs1, hw1⟩
  have HE1 := hid (HE.out.turned HS.out hw1)
  have HS1 := hid hs1
  have HW1 := hid hw1
  obtain ⟨⟨A1, m1, k1, hc1⟩, hl1, hr1⟩ := hs1
  have z2 := hc1.at2
  have z3 := hc1.at3
  have HL1 := hid hl1
  have HR1 := hid hr1
  obtain ⟨⟨v1, hv1, hcl1⟩, hll1, _⟩ := hl1
  have z4 := hcl1.at2
  have HLL1 := hid hll1
  clear hc1 hr1 hv1 hcl1 hll1 hw1 c2 c3
  try simp only [ptr_node] at z2 z3
  go_wp2_with fail
  refine (Rb.isRed (.node g true l x a) _ (HL1.out.st)).mono ?_
  rintro e0 w0 ⟨rfl, rfl⟩
  simp only [Tr.red]
  go_wp2_with fail
  refine (Rb.isRed (l) _ (HLL1.out.st)).mono ?_
  rintro e0 w0 ⟨rfl, rfl⟩
  rw [HLR.out]
  go_wp2_with fail
  refine (Rb.isRed (.node g true l x a) _ (HL1.out.st)).mono ?_
  rintro e0 w0 ⟨rfl, rfl⟩
  simp only [Tr.red]
  go_wp2_with fail
  refine (Rb.isRed (.node gb true lb z rb) _ (HR1.out.st)).mono ?_
  rintro e0 w0 ⟨rfl, rfl⟩
  simp only [Tr.red]
  go_wp2_with fail
  refine (Rb.flip h g gb c true true y x z l a lb rb _ HS1.out ((Tr.perm_turnLeft (Tr.node g c l x (.node h true a y (.node gb true lb z rb)))).nodup_iff.2 HD.out)).mono ?_
  rintro e2 w2 ⟨rfl, hs2, hw2⟩
  have HS2 := hid hs2
  have HW2 := hid hw2
  have HE2 := hid (HE1.out.turned HS1.out hw2)
  clear hs2 hw2 z2 z3 z4
  go_wp2_with fail
  refine (Rb.count th h (!c) (.node g false l x a) (.node gb false lb z rb) y rt n _ (HS2.out) ((Tr.perm_turnLeft (Tr.node g c l x (.node h true a y (.node gb true lb z rb)))).nodup_iff.2 HD.out) (Nat.le_trans (Nat.le_of_eq (congrArg List.length (Tr.list_turnLeft (Tr.node g c l x (.node h true a y (.node gb true lb z rb)))))) HN.out) (HE2.out)).mono ?_
  rintro e9 w9 ⟨rfl, hi9, hw9⟩
  have HI9 := hid hi9
  have HW9 := hid hw9
  clear hi9 hw9
  go_wp2_with fail
  go_ret
  exact ⟨rfl, HI9.out, (HW1.out.trans HW2.out (fun j hj => Or.inl ((Tr.perm_turnLeft (Tr.node g c l x (.node h true a y (.node gb true lb z rb)))).mem_iff.1 hj))).trans HW9.out (fun j hj => Or.inl ((Tr.perm_turnLeft (Tr.node g c l x (.node h true a y (.node gb true lb z rb)))).mem_iff.1 (by simp at hj; subst hj; simp [Tr.turnLeft, Tr.blocks])))⟩

set_option maxRecDepth 100000 in
set_option maxHeartbeats 1000000 in
theorem Rb.bal_b (g h gb : Nat) (c : Bool) (lb rb a r : Tr Int) (x y z : Int) (th : Nat) (rt : Value) (n : Int) (w : World) (hst : St w (.node g c (.node h true (.node gb true lb z rb) y a) x r)) (hd : (Tr.node g c (.node h true (.node gb true lb z rb) y a) x r).blocks.Nodup)
    (hn : (Tr.node g c (.node h true (.node gb true lb z rb) y a) x r).list.length ≤ 900000) (he : Env w th rt n) (hrr : r.red = false) :
    Calls Tryz.prog 177 #[.pointer (some ⟨th, 0, none⟩), .pointer (some ⟨g, 0, none⟩)] w (Turned (.node h (!c) (.node gb false lb z rb) y (.node g false a x r)) (Tr.node g c (.node h true (.node gb true lb z rb) y a) x r).blocks w) := by
  have HS := hid hst
  have HE := hid he
  have HD := hid hd
  have HN := hid hn
  obtain ⟨⟨A, m, k, hc⟩, hl, hr⟩ := hst
  have c2 := hc.at2
  have c3 := hc.at3
  have HL := hid hl
  obtain ⟨⟨v1, _, hcl⟩, hll, _⟩ := hl
  have c4 := hcl.at2
  have HLL := hid hll
  simp only [ptr_node] at c4
  clear hcl hll
  have HR := hid hr
  clear hc hr hd hn he
  try simp only [ptr_node] at c2 c3
  have HRR := hid hrr
  clear hrr
  go_enter Tryz.func177, Tryz.ntmps177
  go_wp2_with fail
  refine (Rb.isRed (r) _ (HR.out.st)).mono ?_
  rintro e0 w0 ⟨rfl, rfl⟩
  rw [HRR.out]
  go_wp2_with fail
  refine (Rb.isRed (.node h true (.node gb true lb z rb) y a) _ (HL.out.st)).mono ?_
  rintro e0 w0 ⟨rfl, rfl⟩
  simp only [Tr.red]
  go_wp2_with fail
  refine (Rb.isRed (.node gb true lb z rb) _ (HLL.out.st)).mono ?_
  rintro e0 w0 ⟨rfl, rfl⟩
  simp only [Tr.red]
  go_wp2_with fail
  refine (Rb.turnRight th g h c true (.node gb true lb z rb) a r x y rt n _ HS.out HD.out HN.out HE.out).mono ?_
  rintro e1 w1 ⟨rfl, hs1, hw1⟩
  have HE1 := hid (HE.out.turned HS.out hw1)
  have HS1 := hid hs1
  have HW1 := hid hw1
  obtain ⟨⟨A1, m1, k1, hc1⟩, hl1, hr1⟩ := hs1
  have z2 := hc1.at2
  have z3 := hc1.at3
  have HL1 := hid hl1
  have HR1 := hid hr1
  clear hc1 hr1 hl1 hw1 c2 c3 c4
  try simp only [ptr_node] at z2 z3
  go_wp2_with fail
  refine (Rb.isRed (.node gb true lb z rb) _ (HL1.out.st)).mono ?_
  rintro e0 w0 ⟨rfl, rfl⟩
  simp only [Tr.red]
  go_wp2_with fail
  refine (Rb.isRed (.node g true a x r) _ (HR1.out.st)).mono ?_
  rintro e0 w0 ⟨rfl, rfl⟩
  simp only [Tr.red]
  go_wp2_with fail
  refine (Rb.flip h gb g c true true y z x lb rb a r _ HS1.out ((Tr.perm_turnRight (Tr.node g c (.node h true (.node gb true lb z rb) y a) x r)).nodup_iff.2 HD.out)).mono ?_
  rintro e2 w2 ⟨rfl, hs2, hw2⟩
  have HS2 := hid hs2
  have HW2 := hid hw2
  have HE2 := hid (HE1.out.turned HS1.out hw2)
  clear hs2 hw2 z2 z3
  go_wp2_with fail
  refine (Rb.count th h (!c) (.node gb false lb z rb) (.node g false a x r) y rt n _ (HS2.out) ((Tr.perm_turnRight (Tr.node g c (.node h true (.node gb true lb z rb) y a) x r)).nodup_iff.2 HD.out) (Nat.le_trans (Nat.le_of_eq (congrArg List.length (Tr.list_turnRight (Tr.node g c (.node h true (.node gb true lb z rb) y a) x r)))) HN.out) (HE2.out)).mono ?_
  rintro e9 w9 ⟨rfl, hi9, hw9⟩
  have HI9 := hid hi9
  have HW9 := hid hw9
  clear hi9 hw9
  go_wp2_with fail
  go_ret
  exact ⟨rfl, HI9.out, (HW1.out.trans HW2.out (fun j hj => Or.inl ((Tr.perm_turnRight (Tr.node g c (.node h true (.node gb true lb z rb) y a) x r)).mem_iff.1 hj))).trans HW9.out (fun j hj => Or.inl ((Tr.perm_turnRight (Tr.node g c (.node h true (.node gb true lb z rb) y a) x r)).mem_iff.1 (by simp at hj; subst hj; simp [Tr.turnRight, Tr.blocks])))⟩

set_option maxRecDepth 100000 in
set_option maxHeartbeats 1000000 in
theorem Rb.bal_b2 (g h gb : Nat) (c : Bool) (lb rb a r : Tr Int) (x y z : Int) (th : Nat) (rt : Value) (n : Int) (w : World) (hst : St w (.node g c (.node h true (.node gb true lb z rb) y a) x r)) (hd : (Tr.node g c (.node h true (.node gb true lb z rb) y a) x r).blocks.Nodup)
    (hn : (Tr.node g c (.node h true (.node gb true lb z rb) y a) x r).list.length ≤ 900000) (he : Env w th rt n) (hrr : r.red = true) :
    Calls Tryz.prog 177 #[.pointer (some ⟨th, 0, none⟩), .pointer (some ⟨g, 0, none⟩)] w (Turned (.node h (!c) (.node gb false lb z rb) y (.node g false a x r)) (Tr.node g c (.node h true (.node gb true lb z rb) y a) x r).blocks w) := by
  have HS := hid hst
  have HE := hid he
  have HD := hid hd
  have HN := hid hn
  obtain ⟨⟨A, m, k, hc⟩, hl, hr⟩ := hst
  have c2 := hc.at2
  have c3 := hc.at3
  have HL := hid hl
  obtain ⟨⟨v1, _, hcl⟩, hll, _⟩ := hl
  have c4 := hcl.at2
  have HLL := hid hll
  simp only [ptr_node] at c4
  clear hcl hll
  have HR := hid hr
  clear hc hr hd hn he
  try simp only [ptr_node] at c2 c3
  have HRR := hid hrr
  clear hrr
  go_enter Tryz.func177, Tryz.ntmps177
  go_wp2_with fail
  refine (Rb.isRed (r) _ (HR.out.st)).mono ?_
  rintro e0 w0 ⟨rfl, rfl⟩
  rw [HRR.out]
  go_wp2_with fail
  refine (Rb.isRed (.node h true (.node gb true lb z rb) y a) _ (HL.out.st)).mono ?_
  rintro e0 w0 ⟨rfl, rfl⟩
  simp only [Tr.red]
  go_wp2_with fail
  refine (Rb.isRed (.node h true (.node gb true lb z rb) y a) _ (HL.out.st)).mono ?_
  rintro e0 w0 ⟨rfl, rfl⟩
  simp only [Tr.red]
  go_wp2_with fail
  refine (Rb.isRed (.node gb true lb z rb) _ (HLL.out.st)).mono ?_
  rintro e0 w0 ⟨rfl, rfl⟩
  simp only [Tr.red]
  go_wp2_with fail
  refine (Rb.turnRight th g h c true (.node gb true lb z rb) a r x y rt n _ HS.out HD.out HN.out HE.out).mono ?_
  rintro e1 w1 ⟨rfl, hs1, hw1⟩
  have HE1 := hid (HE.out.turned HS.out hw1)
  have HS1 := hid hs1
  have HW1 := hid hw1
  obtain ⟨⟨A1, m1, k1, hc1⟩, hl1, hr1⟩ := hs1
  have z2 := hc1.at2
  have z3 := hc1.at3
  have HL1 := hid hl1
  have HR1 := hid hr1
  clear hc1 hr1 hl1 hw1 c2 c3 c4
  try simp only [ptr_node] at z2 z3
  go_wp2_with fail
  refine (Rb.isRed (.node gb true lb z rb) _ (HL1.out.st)).mono ?_
  rintro e0 w0 ⟨rfl, rfl⟩
  simp only [Tr.red]
  go_wp2_with fail
  refine (Rb.isRed (.node g true a x r) _ (HR1.out.st)).mono ?_
  rintro e0 w0 ⟨rfl, rfl⟩
  simp only [Tr.red]
  go_wp2_with fail
  refine (Rb.flip h gb g c true true y z x lb rb a r _ HS1.out ((Tr.perm_turnRight (Tr.node g c (.node h true (.node gb true lb z rb) y a) x r)).nodup_iff.2 HD.out)).mono ?_
  rintro e2 w2 ⟨rfl, hs2, hw2⟩
  have HS2 := hid hs2
  have HW2 := hid hw2
  have HE2 := hid (HE1.out.turned HS1.out hw2)
  clear hs2 hw2 z2 z3
  go_wp2_with fail
  refine (Rb.count th h (!c) (.node gb false lb z rb) (.node g false a x r) y rt n _ (HS2.out) ((Tr.perm_turnRight (Tr.node g c (.node h true (.node gb true lb z rb) y a) x r)).nodup_iff.2 HD.out) (Nat.le_trans (Nat.le_of_eq (congrArg List.length (Tr.list_turnRight (Tr.node g c (.node h true (.node gb true lb z rb) y a) x r)))) HN.out) (HE2.out)).mono ?_
  rintro e9 w9 ⟨rfl, hi9, hw9⟩
  have HI9 := hid hi9
  have HW9 := hid hw9
  clear hi9 hw9
  go_wp2_with fail
  go_ret
  exact ⟨rfl, HI9.out, (HW1.out.trans HW2.out (fun j hj => Or.inl ((Tr.perm_turnRight (Tr.node g c (.node h true (.node gb true lb z rb) y a) x r)).mem_iff.1 hj))).trans HW9.out (fun j hj => Or.inl ((Tr.perm_turnRight (Tr.node g c (.node h true (.node gb true lb z rb) y a) x r)).mem_iff.1 (by simp at hj; subst hj; simp [Tr.turnRight, Tr.blocks])))⟩

set_option maxRecDepth 100000 in
set_option maxHeartbeats 1000000 in
theorem Rb.bal_c1 (g h : Nat) (c : Bool) (a b r : Tr Int) (x y : Int) (th : Nat) (rt : Value) (n : Int) (w : World) (hst : St w (.node g c (.node h true b y a) x r)) (hd : (Tr.node g c (.node h true b y a) x r).blocks.Nodup)
    (hn : (Tr.node g c (.node h true b y a) x r).list.length ≤ 900000) (he : Env w th rt n) (hbr : b.red = false) (hrr : r.red = false) :
    Calls Tryz.prog 177 #[.pointer (some ⟨th, 0, none⟩), .pointer (some ⟨g, 0, none⟩)] w (Turned (.node g c (.node h true b y a) x r) (Tr.node g c (.node h true b y a) x r).blocks w) := by
  have HS := hid hst
  have HE := hid he
  have HD := hid hd
  have HN := hid hn
  obtain ⟨⟨A, m, k, hc⟩, hl, hr⟩ := hst
  have c2 := hc.at2
  have c3 := hc.at3
  have HL := hid hl
  obtain ⟨⟨v1, _, hcl⟩, hll, _⟩ := hl
  have c4 := hcl.at2
  have HLL := hid hll
  clear hcl hll
  have HR := hid hr
  clear hc hr hd hn he
  try simp only [ptr_node] at c2 c3
  have HBR := hid hbr
  have HRR := hid hrr
  clear hbr hrr
  go_enter Tryz.func177, Tryz.ntmps177
  go_wp2_with fail
  refine (Rb.isRed (r) _ (HR.out.st)).mono ?_
  rintro e0 w0 ⟨rfl, rfl⟩
  rw [HRR.out]
  go_wp2_with fail
  refine (Rb.isRed (.node h true b y a) _ (HL.out.st)).mono ?_
  rintro e0 w0 ⟨rfl, rfl⟩
  simp only [Tr.red]
  go_wp2_with fail
  refine (Rb.isRed (b) _ (HLL.out.st)).mono ?_
  rintro e0 w0 ⟨rfl, rfl⟩
  rw [HBR.out]
  go_wp2_with fail
  refine (Rb.isRed (.node h true b y a) _ (HL.out.st)).mono ?_
  rintro e0 w0 ⟨rfl, rfl⟩
  simp only [Tr.red]
  go_wp2_with fail
  refine (Rb.isRed (r) _ (HR.out.st)).mono ?_
  rintro e0 w0 ⟨rfl, rfl⟩
  rw [HRR.out]
  go_wp2_with fail
  refine (Rb.count th g c (.node h true b y a) (r) x rt n _ (HS.out) (HD.out) (HN.out) (HE.out)).mono ?_
  rintro e9 w9 ⟨rfl, hi9, hw9⟩
  have HI9 := hid hi9
  have HW9 := hid hw9
  clear hi9 hw9
  go_wp2_with fail
  go_ret
  exact ⟨rfl, HI9.out, HW9.out.mono (by simp [Tr.blocks])⟩

set_option maxRecDepth 100000 in
set_option maxHeartbeats 1000000 in
theorem Rb.bal_c2 (g h gb : Nat) (c : Bool) (lb rb a b : Tr Int) (x y z : Int) (th : Nat) (rt : Value) (n : Int) (w : World) (hst : St w (.node g c (.node h true b y a) x (.node gb true lb z rb))) (hd : (Tr.node g c (.node h true b y a) x (.node gb true lb z rb)).blocks.Nodup)
    (hn : (Tr.node g c (.node h true b y a) x (.node gb true lb z rb)).list.length ≤ 900000) (he : Env w th rt n) (hbr : b.red = false) :
    Calls Tryz.prog 177 #[.pointer (some ⟨th, 0, none⟩), .pointer (some ⟨g, 0, none⟩)] w (Turned (.node g (!c) (.node h false b y a) x (.node gb false lb z rb)) (Tr.node g c (.node h true b y a) x (.node gb true lb z rb)).blocks w) := by
  have HS := hid hst
  have HE := hid he
  have HD := hid hd
  have HN := hid hn
  obtain ⟨⟨A, m, k, hc⟩, hl, hr⟩ := hst
  have c2 := hc.at2
  have c3 := hc.at3
  have HL := hid hl
  obtain ⟨⟨v1, _, hcl⟩, hll, _⟩ := hl
  have c4 := hcl.at2
  have HLL := hid hll
  clear hcl hll
  have HR := hid hr
  clear hc hr hd hn he
  try simp only [ptr_node] at c2 c3
  have HBR := hid hbr
  clear hbr
  go_enter Tryz.func177, Tryz.ntmps177
  go_wp2_with fail
  refine (Rb.isRed (.node gb true lb z rb) _ (HR.out.st)).mono ?_
  rintro e0 w0 ⟨rfl, rfl⟩
  simp only [Tr.red]
  go_wp2_with fail
  refine (Rb.isRed (.node h true b y a) _ (HL.out.st)).mono ?_
  rintro e0 w0 ⟨rfl, rfl⟩
  simp only [Tr.red]
  go_wp2_with fail
  refine (Rb.isRed (.node h true b y a) _ (HL.out.st)).mono ?_
  rintro e0 w0 ⟨rfl, rfl⟩
  simp only [Tr.red]
  go_wp2_with fail
  refine (Rb.isRed (b) _ (HLL.out.st)).mono ?_
  rintro e0 w0 ⟨rfl, rfl⟩
  rw [HBR.out]
  go_wp2_with fail
  refine (Rb.isRed (.node h true b y a) _ (HL.out.st)).mono ?_
  rintro e0 w0 ⟨rfl, rfl⟩
  simp only [Tr.red]
  go_wp2_with fail
  refine (Rb.isRed (.node gb true lb z rb) _ (HR.out.st)).mono ?_
  rintro e0 w0 ⟨rfl, rfl⟩
  simp only [Tr.red]
  go_wp2_with fail
  refine (Rb.flip g h gb c true true x y z b a lb rb _ HS.out HD.out).mono ?_
  rintro e2 w2 ⟨rfl, hs2, hw2⟩
  have HS2 := hid hs2
  have HW2 := hid hw2
  have HE2 := hid (HE.out.turned HS.out hw2)
  clear hs2 hw2 c2 c3 c4
  go_wp2_with fail
  refine (Rb.count th g (!c) (.node h false b y a) (.node gb false lb z rb) x rt n _ (HS2.out) (HD.out) (HN.out) (HE2.out)).mono ?_
  rintro e9 w9 ⟨rfl, hi9, hw9⟩
  have HI9 := hid hi9
  have HW9 := hid hw9
  clear hi9 hw9
  go_wp2_with fail
  go_ret
  exact ⟨rfl, HI9.out, HW2.out.trans HW9.out (fun j hj => Or.inl (by simp at hj; subst hj; simp [Tr.blocks]))⟩

theorem Rb.balance (g : Nat) (c : Bool) (l r : Tr Int) (x : Int) (th : Nat) (rt : Value) (n : Int) (w : World) (hst : St w (.node g c l x r)) (hd : (Tr.node g c l x r).blocks.Nodup)
    (hn : (Tr.node g c l x r).list.length ≤ 900000) (he : Env w th rt n) :
    Calls Tryz.prog 177 #[.pointer (some ⟨th, 0, none⟩), .pointer (some ⟨g, 0, none⟩)] w (Turned (Tr.balance (.node g c l x r)) (Tr.node g c l x r).blocks w) := by
  cases hl : l.red with
  | false =>
    cases hr : r.red with
    | false =>
      rw [Tr.bal_same hl hr]
      exact Rb.bal_d g c l r x th rt n w hst hd hn he hl hr
    | true =>
      cases r with
      | nil => simp [Tr.red] at hr
      | node h d a y b =>
        simp only [Tr.red] at hr
        subst hr
        cases hb : b.red with
        | false =>
          have e : Tr.balance (.node g c l x (.node h true a y b)) = .node h c (.node g true l x a) y b := by simp [Tr.balance, Tr.bal1, Tr.bal2, Tr.bal3, Tr.red_node, Tr.left_node, Tr.right_node, Tr.turnLeft, hl, hb]
          rw [e]
          exact Rb.bal_a1 g h c l a b x y th rt n w hst hd hn he hl hb
        | true =>
          cases b with
          | nil => simp [Tr.red] at hb
          | node gb d lb z rb =>
            simp only [Tr.red] at hb
            subst hb
            have e : Tr.balance (.node g c l x (.node h true a y (.node gb true lb z rb))) = .node h (!c) (.node g false l x a) y (.node gb false lb z rb) := by simp [Tr.balance, Tr.bal1, Tr.bal2, Tr.bal3, Tr.red_node, Tr.left_node, Tr.right_node, Tr.turnLeft, Tr.flip, Tr.neg, hl]
            rw [e]
            exact Rb.bal_a2 g h gb c l a lb rb x y z th rt n w hst hd hn he hl
  | true =>
    cases l with
    | nil => simp [Tr.red] at hl
    | node h d b y a =>
      simp only [Tr.red] at hl
      subst hl
      cases hb : b.red with
      | false =>
        cases hr : r.red with
        | false =>
          have e : Tr.balance (.node g c (.node h true b y a) x r) = .node g c (.node h true b y a) x r := by simp [Tr.balance, Tr.bal1, Tr.bal2, Tr.bal3, Tr.red_node, Tr.left_node, Tr.right_node, hb, hr]
          rw [e]
          exact Rb.bal_c1 g h c a b r x y th rt n w hst hd hn he hb hr
        | true =>
          cases r with
          | nil => simp [Tr.red] at hr
          | node gb d lb z rb =>
            simp only [Tr.red] at hr
            subst hr
            have e : Tr.balance (.node g c (.node h true b y a) x (.node gb true lb z rb)) = .node g (!c) (.node h false b y a) x (.node gb false lb z rb) := by simp [Tr.balance, Tr.bal1, Tr.bal2, Tr.bal3, Tr.red_node, Tr.left_node, Tr.right_node, Tr.flip, Tr.neg, hb]
            rw [e]
            exact Rb.bal_c2 g h gb c lb rb a b x y z th rt n w hst hd hn he hb
      | true =>
        cases b with
        | nil => simp [Tr.red] at hb
        | node gb d lb z rb =>
          simp only [Tr.red] at hb
          subst hb
          have e : Tr.balance (.node g c (.node h true (.node gb true lb z rb) y a) x r) = .node h (!c) (.node gb false lb z rb) y (.node g false a x r) := by simp [Tr.balance, Tr.bal1, Tr.bal2, Tr.bal3, Tr.red_node, Tr.left_node, Tr.right_node, Tr.turnRight, Tr.flip, Tr.neg]
          rw [e]
          cases hr : r.red with
          | false => exact Rb.bal_b g h gb c lb rb a r x y z th rt n w hst hd hn he hr
          | true => exact Rb.bal_b2 g h gb c lb rb a r x y z th rt n w hst hd hn he hr

end Go.Proofs.YtoioeginfhkjjaaGreatDoor

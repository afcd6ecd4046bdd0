/- Texts of ReqMakes's proof, together. -/
import Derived.Test.YtjndmmcjobbcbaaGreatDoorSpB
import Derived.Test.YtjndmmcjobbcbaaGreatDoorReqMakesZ45
import Derived.Test.YtjndmmcjobbcbaaGreatDoorOrdG
import Derived.Test.YtjndmmcjobbcbaaGreatDoorReqMakesZ22
import Derived.Test.YtjndmmcjobbcbaaGreatDoorReqMakesZ28
import Derived.Test.YtjndmmcjobbcbaaGreatDoorReqMakesZ24
import Derived.Test.YtjndmmcjobbcbaaGreatDoorReqMakesZ15
import Derived.Test.YtjndmmcjobbcbaaGreatDoorReqMakesZ38
namespace Go.Proofs.YtjndmmcjobbcbaaGreatDoor

section
open Go.RowKit
set_option maxRecDepth 100000
set_option maxHeartbeats 32000000
theorem RdI.nil0 (w : World) (A : Option Addr) : RdI w A 0 [] := ⟨rfl, fun i hi => absurd hi (by omega)⟩
theorem Cs.one {w : World} {g : Nat} {x : It} (h : Cs w g x.cells) : RdI w (some ⟨g, 0, none⟩) 1 [x] :=
 ⟨rfl, fun i hi => ⟨g, 0, rfl, World.block_lt_of_cell? w _ (It.at x h).1, fun j hj => by
  obtain rfl : j = 0 := by omega
  exact It.at x h⟩⟩
theorem Law12.Awake (w : World) (htab : Tab10 w.heap.size w) : Calls Tryz.prog 159 #[] w (Ans (.bool true) w) := by
 go_enter Tryz.func159, Tryz.ntmps159
 go_wp2_with (go_at_call 206; refine (Law12.awake _ htab).mono ?_; rintro e w' ⟨rfl, hb⟩)
 go_ret
 exact ⟨rfl, hb⟩
theorem Law13.awake (w : World) (htab : Tab10 w.heap.size w) : Calls Tryz.prog 110 #[] w (Ans (.bool true) w) := by
 have HT := hid htab
 clear htab
 have e1 : IntKind.u64.wrap (0 + 4611686018427387905) = 4611686018427387905 := by decide
 have hfd : ∀ w : World, (Instr.field 29 (.agg #[.int .u64 0, .int .u32 0, .int .u32 0, .int .i64 0, .int .u64 0, .int .u32 0, .int .u32 0]) 0).run Tryz.prog w = .ok (.agg #[.int .u64 0, .int .u32 0, .int .u32 0]) w := fun _ => by kernel_rfl
 go_enter Tryz.func110, Tryz.ntmps110
 go_wp2_with fail
 refine (Pos.shiftF (0, 0, 0) 4611686018427387905 _).mono ?_
 unfold shP
 simp only [e1]
 rintro e w1 ⟨rfl, hb⟩
 have ha := (Below.refl w1.heap.size w1).alloc (Nat.le_refl _) (.cells #[.int .u64 (It.mk 0 0 0 0 4611686018427387905 0 0).t, .int .u32 (It.mk 0 0 0 0 4611686018427387905 0 0).r, .int .u32 (It.mk 0 0 0 0 4611686018427387905 0 0).v, .int .i64 (It.mk 0 0 0 0 4611686018427387905 0 0).i, .int .u64 (It.mk 0 0 0 0 4611686018427387905 0 0).u, .int .u32 (It.mk 0 0 0 0 4611686018427387905 0 0).s, .int .u32 (It.mk 0 0 0 0 4611686018427387905 0 0).y] 29)
 have HC := hid (Cs.new7 w1 29 (It.mk 0 0 0 0 4611686018427387905 0 0))
 have HB1 := hid (below_on hb ha)
 clear hb ha
 go_wp2_with fail
 generalize (w1.alloc (.cells #[.int .u64 (It.mk 0 0 0 0 4611686018427387905 0 0).t, .int .u32 (It.mk 0 0 0 0 4611686018427387905 0 0).r, .int .u32 (It.mk 0 0 0 0 4611686018427387905 0 0).v, .int .i64 (It.mk 0 0 0 0 4611686018427387905 0 0).i, .int .u64 (It.mk 0 0 0 0 4611686018427387905 0 0).u, .int .u32 (It.mk 0 0 0 0 4611686018427387905 0 0).s, .int .u32 (It.mk 0 0 0 0 4611686018427387905 0 0).y] 29)) = W1 at HC HB1 ⊢
 generalize w1.heap.size = g at HC ⊢
 refine (Law12.Awake _ (HT.out.at2 HB1.out)).mono ?_
 rintro e w2 ⟨rfl, hb⟩
 have HB2 := hid (below_on HB1.out hb)
 have HC2 := hid ((show Cs W1 g (It.cells (It.mk 0 0 0 0 4611686018427387905 0 0)) from HC.out).below hb)
 clear hb HB1 HC
 go_wp2_with fail
 refine (Span.room 0 none 0 0 [] _ (RdI.nil0 _ _) (by omega)).mono ?_
 rw [ex13.1]
 rintro e w3 ⟨rfl, hb⟩
 have HB3 := hid (below_on HB2.out hb)
 have HC3 := hid (HC2.out.below hb)
 obtain ⟨p0, p1, p2, p3, p4, p5, p6⟩ := It.at _ HC3.out
 have HN := hid (Cs.new7 w3 29 (It.mk 0 0 0 0 4611686018427387905 0 0)).one
 have HB4 := hid (below_on HB3.out ((Below.refl w3.heap.size w3).alloc (Nat.le_refl _) (.cells #[.int .u64 (It.mk 0 0 0 0 4611686018427387905 0 0).t, .int .u32 (It.mk 0 0 0 0 4611686018427387905 0 0).r, .int .u32 (It.mk 0 0 0 0 4611686018427387905 0 0).v, .int .i64 (It.mk 0 0 0 0 4611686018427387905 0 0).i, .int .u64 (It.mk 0 0 0 0 4611686018427387905 0 0).u, .int .u32 (It.mk 0 0 0 0 4611686018427387905 0 0).s, .int .u32 (It.mk 0 0 0 0 4611686018427387905 0 0).y] 29)))
 clear hb HB2 HC2
 go_wp2_with fail
 refine (Span.within 0 (some ⟨w3.heap.size, 0, none⟩) 1 1 [(It.mk 0 0 0 0 4611686018427387905 0 0)] _ HN.out (by omega)).mono ?_
 rw [ex13.2]
 rintro e w4 ⟨rfl, hb⟩
 have HB5 := hid (below_on HB4.out hb)
 clear hb
 go_wp2_with fail
 go_ret
 exact ⟨rfl, HB5.out⟩
end


section
open Go.RowKit
theorem OwnI.empty (w : World) {base : Nat} (hb : base ≤ w.heap.size) : OwnI (w.alloc (.cells #[] 29)) base (some ⟨w.heap.size, 0, none⟩) 0 0 [] := by
 have h := World.ownsRow_lit (base := base) (e := 29) (size := 7) w #[] 0 hb (by decide) (by decide)
 simpa [OwnI] using h
section
variable {P : Program} {ops : Array Oper} {Q : Exit → Act → World → Prop} {md : Region.Mode} {S0 : World → Prop} {S : World → Prop}
theorem wpAnyE_slice1 {n i : Nat} {oi : Oper} {fuel : Nat} {listed : Array Bool} {a : Act} (T : World → Nat → Prop) (hi : ops[i]? = some oi) (hr : Region.ready md ops listed = [i]) (hin : i < n) (hw : Region.wanted oi (yielded ops a.tmps) = true)
  (hst : Stays S) (hs0 : ∀ w, S w → S0 w) (hT : ∀ g, Stays (fun w => T w g)) (hrun : ∀ w, S w → ∃ w', (execOp a.eval oi).run P w = .ok (.value (.slice (some ⟨w.heap.size, 0, none⟩) 1 1)) w' ∧ Below w.heap.size w w' ∧ T w' w.heap.size)
  (h : ∀ g, wpAnyE P md ops Q S0 n fuel (fun w => S w ∧ T w g) (listed.setIfInBounds i true) (a.put oi.dst (.slice (some ⟨g, 0, none⟩) 1 1))) : wpAnyE P md ops Q S0 n (fuel + 1) S listed a :=
 wpAnyE_one hi hr hin hw (fun w hS K hK => by
  obtain ⟨w', e, hb, hT'⟩ := hrun w hS
  unfold Oper.wp
  rw [e]
  exact hK.out _ _ (fun w2 => S w2 ∧ T w2 w.heap.size) (fun _ h => hs0 _ h.1) (fun x y hx hb => ⟨hst _ _ hx.1 hb, hT _ _ _ hx.2 hb⟩) ⟨hst _ _ hS hb, hT'⟩ (h _))
end
theorem stays_tt (_x : Unit) : Stays (fun _ : World => True) := fun _ _ _ _ => trivial
end


section
open Go.RowKit
def mvP (p : P3) (n : Int) : P3 := atP p.1 (p.2.1 + n * 1048576) p.2.2
def mvOk (p : P3) (n : Int) : Bool := atOk (p.2.1 + n * 1048576) p.2.2
theorem mv_due {p : P3} (h : IsP p.2.1 p.2.2) {n : Int} (h0 : 0 ≤ n) (h1 : n ≤ 1099511627776) : mvP p n = dueP p n ∧ mvOk p n = true := by
 unfold mvP mvOk dueP
 rw [gw_eq h0 h1, show p.2.1 + n * 1048576 = 1048576 * n + p.2.1 by omega]
 exact ⟨rfl, atOk_iff.2 (move_ok h (by omega) (by omega))⟩
theorem infoRefReq : (Tryz.prog.info? 61).map (·.size) = some 10 := by kernel_rfl
theorem Ref4.atF (base z v : Int) (hb : IsT base) (v0 : 0 ≤ v) (v1 : v ≤ 4294967295) (s : Bool) (A : Option Addr) (n c : Nat) (w : World) (hz : IsB w 18 s A n c z) :
  Calls Tryz.prog 129 #[.int .u64 base, .agg #[.bool s, .slice A n c], .int .u32 v] w (Ans (.tuple #[pv (atP base z v), .bool (atOk z v)]) w) := by
 by_cases h : 1 ≤ v ∧ v ≤ 1048576
 ·refine Ref4.at_in base z v hb.1 hb.2 s A n c h.1 h.2 (atOk z v) (by rw [atOk_iff]; unfold AtOk; omega) (atP base z v).1 (atP base z v).2.1 (atP base z v).2.2 (fun e => by unfold atP; rw [if_pos e]; exact ⟨rfl, rfl, rfl⟩) (fun e => by unfold atP; rw [e, if_neg (by decide)]; exact ⟨rfl, rfl, rfl⟩) w hz
 ·have e : atOk z v = false := by unfold atOk; rw [decide_eq_false h]; rfl
  have e2 : atP base z v = (0, 0, 0) := by unfold atP; rw [e, if_neg (by decide)]
  rw [e, e2]
  exact Ref4.at_weight base v s A n c (by omega) w
set_option maxHeartbeats 400000 in
theorem Ref15.may (n : Int) (w : World) : Calls Tryz.prog 86 #[.int .u64 n] w (Ans (.bool (slI n)) w) := by
 unfold slI
 by_cases h1 : 1 ≤ n
 ·by_cases h2 : n ≤ 1099511627776
  ·have e : decide (1 ≤ n ∧ n ≤ 1099511627776) = true := by rw [decide_eq_true_eq]; exact ⟨h1, h2⟩
   rw [e]
   clear e
   go_enter Tryz.func86, Tryz.ntmps86
   go_wp2
   go_ret
   exact ⟨rfl, Below.refl _ _⟩
  ·have e : decide (1 ≤ n ∧ n ≤ 1099511627776) = false := by rw [decide_eq_false_iff_not]; omega
   rw [e]
   clear e
   go_enter Tryz.func86, Tryz.ntmps86
   go_wp2
   go_ret
   exact ⟨rfl, Below.refl _ _⟩
 ·have e : decide (1 ≤ n ∧ n ≤ 1099511627776) = false := by rw [decide_eq_false_iff_not]; omega
  rw [e]
  clear e
  go_enter Tryz.func86, Tryz.ntmps86
  go_wp2
  go_ret
  exact ⟨rfl, Below.refl _ _⟩
set_option maxRecDepth 100000 in
set_option maxHeartbeats 8000000 in
theorem Ref15.move (p : P3) (hp : PIn p) (n : Int) (hn : IsT n) (w : World) : Calls Tryz.prog 84 #[pv p, .int .u64 n] w (Ans (.tuple #[pv (mvP p n), .bool (mvOk p n)]) w) := by
 have HP := hid hp
 have HR : Hid (p.2.1 ≤ 18446744073709551615) := hid (by have := hp.2.1.2; omega)
 have HN := hid hn
 obtain ⟨d, hd⟩ : ∃ d, mvP p n = d := ⟨_, rfl⟩
 obtain ⟨k, hk⟩ : ∃ k, mvOk p n = k := ⟨_, rfl⟩
 have HD := hid hd
 have HK := hid hk
 rw [hd, hk]
 clear hp hn hd hk
 have HV0 : Hid (VS w [(w.heap.size, (pcells p)), (w.heap.size + 1, [.int .u64 0, .int .u32 0, .int .u32 0])] ((w.alloc (.cells #[.int .u64 p.1, .int .u32 p.2.1, .int .u32 p.2.2] 57)).alloc (.cells #[.int .u64 0, .int .u32 0, .int .u32 0] 57))) := hid (by have h := (((VS.nil w).new 57 (pcells p)).new 57 [.int .u64 0, .int .u32 0, .int .u32 0]); (try simp only [World.size_alloc] at h); exact h)
 go_enter Tryz.func84, Tryz.ntmps84
 go_wp2_with fail
 generalize ((w.alloc (.cells #[.int .u64 p.1, .int .u32 p.2.1, .int .u32 p.2.2] 57)).alloc (.cells #[.int .u64 0, .int .u32 0, .int .u32 0] 57)) = W0 at HV0 ⊢
 have e1 : IntKind.u64.wrap p.2.1 = p.2.1 := by have := HP.out.2.1; rw [IntKind.wrap_u64]; omega
 have hsT1 : Stays (VS w [(w.heap.size, (pcells p)), (w.heap.size + 1, [.int .u64 0, .int .u32 0, .int .u32 0])]) := VS.stays w _
 refine wp_region_grow (S := VS w [(w.heap.size, (pcells p)), (w.heap.size + 1, [.int .u64 0, .int .u32 0, .int .u32 0])]) 16 (by kernel_rfl) (hsT1 _ _ (HV0.out) (Below.refl _ _).drew) ?_
 refine tF 0 (hsT1) (fun _ h => h) ?_
 try simp only [tdy]
 refine tE 1 (v := ?_) (hsT1) (fun _ h => h) rfl (by kernel_rfl) (by rfl) ?_ ?_
 rotate_left
 ·intro wq hSw
  obtain ⟨p0, p1, p2⟩ : _ ∧ _ ∧ _ := by first | exact P3.at p (hSw.cs 0 rfl) | exact P3.at p (hSw.1.cs 0 rfl) | exact P3.at p (hSw.1.1.cs 0 rfl)
  go_simp; try with_reducible rfl
 try simp only [tdy]
 refine tF 2 (hsT1) (fun _ h => h) ?_
 try simp only [tdy]
 refine tE 3 (v := ?_) (hsT1) (fun _ h => h) rfl (by kernel_rfl) (by rfl) ?_ ?_
 rotate_left
 ·intro wq hSw
  obtain ⟨p0, p1, p2⟩ : _ ∧ _ ∧ _ := by first | exact P3.at p (hSw.cs 0 rfl) | exact P3.at p (hSw.1.cs 0 rfl) | exact P3.at p (hSw.1.1.cs 0 rfl)
  go_simp; try with_reducible rfl
 try simp only [tdy]
 refine tF 4 (hsT1) (fun _ h => h) ?_
 try simp only [tdy]
 refine tF 6 (hsT1) (fun _ h => h) ?_
 try simp only [tdy]
 refine tF 11 (hsT1) (fun _ h => h) ?_
 try simp only [tdy]
 refine tE 12 (v := ?_) (hsT1) (fun _ h => h) rfl (by kernel_rfl) (by rfl) ?_ ?_
 rotate_left
 ·intro wq hSw
  obtain ⟨p0, p1, p2⟩ : _ ∧ _ ∧ _ := by first | exact P3.at p (hSw.cs 0 rfl) | exact P3.at p (hSw.1.cs 0 rfl) | exact P3.at p (hSw.1.1.cs 0 rfl)
  go_simp; try with_reducible rfl
 try simp only [tdy]
 refine wpAnyE_call (i := 5) (bqV) (bqR 5 p.2.1) rfl (by kernel_rfl) (by decide) (by rfl) (hsT1) (fun _ h => h) (fun yq => bqR.stays 5 p.2.1 yq) (fun wq hSw => ?_) (fun yq => ?_)
 ·exact RunI.big (Ref.U p.2.1 HP.out.2.1.1 HR.out wq) (by go_simp)
 obtain ⟨s1, A1, n1, c1⟩ := yq
 dsimp only [bqV, bqR]
 try simp only [tdy]
 refine wpAnyE_call (i := 7) (bqV) (bqR 5 n) rfl (by kernel_rfl) (by decide) (by rfl) (Stays.and_ (hsT1) (bqR.stays 5 p.2.1 (s1, A1, n1, c1))) (fun _ h => h.1) (fun yq => bqR.stays 5 n yq) (fun wq hSw => ?_) (fun yq => ?_)
 ·exact RunI.big (Ref.U n HN.out.1 HN.out.2 wq) (by go_simp)
 obtain ⟨s2, A2, n2, c2⟩ := yq
 dsimp only [bqV, bqR]
 try simp only [tdy]
 refine wpAnyE_call (i := 8) (bqV) (bqR 5 1048576) rfl (by kernel_rfl) (by decide) (by rfl) (Stays.and_ (Stays.and_ (hsT1) (bqR.stays 5 p.2.1 (s1, A1, n1, c1))) (bqR.stays 5 n (s2, A2, n2, c2))) (fun _ h => h.1.1) (fun yq => bqR.stays 5 1048576 yq) (fun wq hSw => ?_) (fun yq => ?_)
 ·exact RunI.big (Ref.U 1048576 (by decide) (by decide) wq) (by go_simp)
 obtain ⟨s3, A3, n3, c3⟩ := yq
 dsimp only [bqV, bqR]
 try simp only [tdy]
 refine wpAnyE_call (i := 9) (bqV) (bqR 11 (n * 1048576)) rfl (by kernel_rfl) (by decide) (by rfl) (Stays.and_ (Stays.and_ (Stays.and_ (hsT1) (bqR.stays 5 p.2.1 (s1, A1, n1, c1))) (bqR.stays 5 n (s2, A2, n2, c2))) (bqR.stays 5 1048576 (s3, A3, n3, c3))) (fun _ h => h.1.1.1) (fun yq => bqR.stays 11 (n * 1048576) yq) (fun wq hSw => ?_) (fun yq => ?_)
 ·exact RunI.big (Ref.mul 5 5 s2 s3 A2 A3 n2 c2 n3 c3 n 1048576 wq hSw.1.2 hSw.2 (by decide) (by decide)) (by go_simp)
 obtain ⟨s4, A4, n4, c4⟩ := yq
 dsimp only [bqV, bqR]
 try simp only [tdy]
 refine wpAnyE_call (i := 10) (bqV) (bqR 12 (p.2.1 + n * 1048576)) rfl (by kernel_rfl) (by decide) (by rfl) (Stays.and_ (Stays.and_ (Stays.and_ (Stays.and_ (hsT1) (bqR.stays 5 p.2.1 (s1, A1, n1, c1))) (bqR.stays 5 n (s2, A2, n2, c2))) (bqR.stays 5 1048576 (s3, A3, n3, c3))) (bqR.stays 11 (n * 1048576) (s4, A4, n4, c4))) (fun _ h => h.1.1.1.1) (fun yq => bqR.stays 12 (p.2.1 + n * 1048576) yq) (fun wq hSw => ?_) (fun yq => ?_)
 ·exact RunI.big (Ref.add 11 s1 s4 A1 A4 n1 c1 n4 c4 p.2.1 (n * 1048576) wq (IsB.mono hSw.1.1.1.2 (by decide)) hSw.2 (by decide)) (by go_simp)
 obtain ⟨s5, A5, n5, c5⟩ := yq
 dsimp only [bqV, bqR]
 try simp only [tdy]
 refine wpAnyE_call (i := 13) (fun _ : Unit => .tuple #[pv d, .bool k]) (fun (_ : Unit) (_ : World) => True) rfl (by kernel_rfl) (by decide) (by rfl) (Stays.and_ (Stays.and_ (Stays.and_ (Stays.and_ (Stays.and_ (hsT1) (bqR.stays 5 p.2.1 (s1, A1, n1, c1))) (bqR.stays 5 n (s2, A2, n2, c2))) (bqR.stays 5 1048576 (s3, A3, n3, c3))) (bqR.stays 11 (n * 1048576) (s4, A4, n4, c4))) (bqR.stays 12 (p.2.1 + n * 1048576) (s5, A5, n5, c5))) (fun _ h => h.1.1.1.1.1) (fun yq => stays_tt yq) (fun wq hSw => ?_) (fun yq => ?_)
 ·exact RunI.of_calls (Ref4.atF p.1 (p.2.1 + n * 1048576) p.2.2 HP.out.1 HP.out.2.2.1 HP.out.2.2.2 s5 A5 n5 c5 wq (IsB.mono hSw.2 (by decide))) (by go_simp) (fun e w' h => by have h' : e = _ ∧ _ := h; rw [show atP p.1 (p.2.1 + n * 1048576) p.2.2 = d from HD.out, show atOk (p.2.1 + n * 1048576) p.2.2 = k from HK.out] at h'; exact ⟨(), h'.1, trivial, h'.2⟩)
 obtain ⟨⟩ := yq
 skip
 try simp only [tdy]
 refine tF 14 (Stays.and_ (Stays.and_ (Stays.and_ (Stays.and_ (Stays.and_ (Stays.and_ (hsT1) (bqR.stays 5 p.2.1 (s1, A1, n1, c1))) (bqR.stays 5 n (s2, A2, n2, c2))) (bqR.stays 5 1048576 (s3, A3, n3, c3))) (bqR.stays 11 (n * 1048576) (s4, A4, n4, c4))) (bqR.stays 12 (p.2.1 + n * 1048576) (s5, A5, n5, c5))) (stays_tt ())) (fun _ h => h.1.1.1.1.1.1) ?_
 try simp only [tdy]
 refine tF 15 (Stays.and_ (Stays.and_ (Stays.and_ (Stays.and_ (Stays.and_ (Stays.and_ (hsT1) (bqR.stays 5 p.2.1 (s1, A1, n1, c1))) (bqR.stays 5 n (s2, A2, n2, c2))) (bqR.stays 5 1048576 (s3, A3, n3, c3))) (bqR.stays 11 (n * 1048576) (s4, A4, n4, c4))) (bqR.stays 12 (p.2.1 + n * 1048576) (s5, A5, n5, c5))) (stays_tt ())) (fun _ h => h.1.1.1.1.1.1) ?_
 try simp only [tdy]
 refine wpAnyE_rest (n := 16) rfl rfl (by kernel_rfl) (fun wz hSz => ?_)
 simp only [List.toList_toArray, List.drop_succ_cons, List.drop_zero]
 have HV1 : Hid (VS w [(w.heap.size, (pcells p)), (w.heap.size + 1, [.int .u64 0, .int .u32 0, .int .u32 0])] wz) := hid hSz.1.1.1.1.1.1
 clear hSz HV0 e1
 go_wp2_with (first | ((with_reducible refine pvs HV1.out 1 57 [.int .u64 d.1, .int .u32 d.2.1, .int .u32 d.2.2] infoP4 4 20 (w.heap.size + 1) ([.int .u64 0, .int .u32 0, .int .u32 0]) 0 ?vs3001); (intro W2 hW2); (have HV2 := hid hW2); (clear hW2 HV1); (obtain ⟨q0, q1, q2⟩ := P3.at d (HV2.out.cs 1 rfl))) | fail)
 refine bodyPost_ret (v := .tuple #[pv d, .bool k]) (by simp [results, Tryz.results84, go_sem, q0, q1, q2]) rfl ⟨rfl, HV2.out.bel⟩
end


section
open Go.RowKit
set_option maxRecDepth 100000
set_option maxHeartbeats 32000000
def Rq.setM (r : Rq) : Rq := ⟨⟨r.a.t, r.a.r, r.a.v, r.a.i, (mvP r.pp r.l).1, (mvP r.pp r.l).2.1, (mvP r.pp r.l).2.2⟩, r.l, r.s, r.z⟩
theorem mvP_in {p : P3} (hp : PIn p) (n : Int) : PIn (mvP p n) := atP_in _ _ hp.2.2.1 hp.2.2.2
theorem setM_in {r : Rq} (h : r.In) : r.setM.In := ⟨⟨h.1.1, h.1.2.1, h.1.2.2.1, h.1.2.2.2.1, (mvP_in (Rq.pp_in h) _).1, (mvP_in (Rq.pp_in h) _).2.1, (mvP_in (Rq.pp_in h) _).2.2⟩, h.2⟩
theorem setM_whr {r : Rq} (h : r.In) : r.setM.whr = (r.from_ r.pp).whr := by
 by_cases c : IsP r.a.r r.a.v ∧ slI r.l = true
 ·have hl := slI_iff.1 c.2
  have e : mvP r.pp r.l = dueP r.pp r.l := (mv_due (p := r.pp) c.1 (by omega) hl.2).1
  have : r.setM = r.from_ r.pp := by unfold Rq.setM Rq.from_; rw [e]; rfl
  rw [this]
 ·unfold Rq.whr
  rw [if_neg, if_neg]
  ·intro e
   have q := right_parts (Rq.from_in h (Rq.pp_in h)) e
   exact c ⟨q.1, q.2.2.1⟩
  ·intro e
   have q := right_parts (setM_in h) e
   exact c ⟨q.1, q.2.2.1⟩
theorem right_mv {r : Rq} (h : r.In) (h1 : It.right r.a = true) (h2 : slI r.l = true) : mvP r.pp r.l = r.due ∧ mvOk r.pp r.l = true := by
 have hl := slI_iff.1 h2
 have h0 := h1
 unfold It.right at h0
 simp only [Bool.and_eq_true, decide_eq_true_eq] at h0
 have hp : IsP r.a.r r.a.v := (posOk_iff h.1.2.1.1).1 h0.1.1.1.1.1
 exact mv_due (p := r.pp) hp (by omega) hl.2
theorem Ref15.right (r : Rq) (hr : r.In) (w : World) : Calls Tryz.prog 36 #[r.val] w (Ans (.bool r.right) w) := by
 have HR := hid hr
 obtain ⟨d, hd⟩ : ∃ d, mvP r.pp r.l = d := ⟨_, rfl⟩
 obtain ⟨k, hk⟩ : ∃ k, mvOk r.pp r.l = k := ⟨_, rfl⟩
 obtain ⟨R, hR⟩ : ∃ R, r.right = R := ⟨_, rfl⟩
 have HD := hid hd
 have HK := hid hk
 have HRV := hid hR
 rw [hR]
 clear hr hd hk hR
 unfold Rq.val
 have HV0 : Hid (VS w [(w.heap.size, r.cells)] (w.alloc (.cells #[.int .u64 r.a.t, .int .u32 r.a.r, .int .u32 r.a.v, .int .i64 r.a.i, .int .u64 r.a.u, .int .u32 r.a.s, .int .u32 r.a.y, .int .u64 r.l, .int .u64 r.s, .bool r.z] 61))) := hid (by have h := ((VS.nil w).new 61 r.cells); (try simp only [World.size_alloc] at h); exact h)
 go_enter Tryz.func36, Tryz.ntmps36
 go_wp2_with fail
 generalize (w.alloc (.cells #[.int .u64 r.a.t, .int .u32 r.a.r, .int .u32 r.a.v, .int .i64 r.a.i, .int .u64 r.a.u, .int .u32 r.a.s, .int .u32 r.a.y, .int .u64 r.l, .int .u64 r.s, .bool r.z] 61)) = W0 at HV0 ⊢
 obtain ⟨c0, c1, c2, c3, c4, c5, c6, c7, c8, c9⟩ := Rq.at r (HV0.out.cs 0 rfl)
 go_wp2_with fail
 refine (Ref15.move r.pp (Rq.pp_in HR.out) r.l HR.out.2.1 _).mono ?_
 rw [HD.out, HK.out]
 rintro e w1 ⟨rfl, hb⟩
 have HV1 := hid (HV0.out.below hb)
 clear hb HV0 c0 c1 c2 c3 c4 c5 c6 c7 c8 c9
 have HV2 : Hid (VS w _ (w1.alloc (.cells #[.int .u64 0, .int .u32 0, .int .u32 0] 57))) := hid (HV1.out.new 57 [.int .u64 0, .int .u32 0, .int .u32 0])
 clear HV1
 go_wp2_with (first | ((with_reducible refine pvs HV2.out 1 57 [.int .u64 d.1, .int .u32 d.2.1, .int .u32 d.2.2] infoP4 3 12 (w1.heap.size) ([.int .u64 0, .int .u32 0, .int .u32 0]) 0 ?vs20001); (intro W2 hW2); (have HV3 := hid hW2); (clear hW2 HV2); (obtain ⟨c0, c1, c2, c3, c4, c5, c6, c7, c8, c9⟩ := Rq.at r (HV3.out.cs 0 rfl))) | fail)
 refine (Ref5.right r.a HR.out.1 _).mono ?_
 rintro e w2 ⟨rfl, hb⟩
 have HV4 := hid (HV3.out.below hb)
 clear hb HV3 c0 c1 c2 c3 c4 c5 c6 c7 c8 c9
 cases h1 : It.right r.a with
 | false =>
  obtain rfl : R = false := by rw [← HRV.out]; unfold Rq.right; rw [h1]; rfl
  go_wp2_with fail
  go_ret
  exact ⟨rfl, HV4.out.bel⟩
 | true =>
  obtain ⟨c0, c1, c2, c3, c4, c5, c6, c7, c8, c9⟩ := Rq.at r (HV4.out.cs 0 rfl)
  go_wp2_with fail
  refine (Ref15.may r.l _).mono ?_
  rintro e w3 ⟨rfl, hb⟩
  have HV5 := hid (HV4.out.below hb)
  clear hb HV4 c0 c1 c2 c3 c4 c5 c6 c7 c8 c9
  cases h2 : slI r.l with
  | false =>
   obtain rfl : R = false := by rw [← HRV.out]; unfold Rq.right; rw [h1, h2]; rfl
   go_wp2_with fail
   go_ret
   exact ⟨rfl, HV5.out.bel⟩
  | true =>
   obtain ⟨c0, c1, c2, c3, c4, c5, c6, c7, c8, c9⟩ := Rq.at r (HV5.out.cs 0 rfl)
   go_wp2_with fail
   refine (Ref15.may r.s _).mono ?_
   rintro e w4 ⟨rfl, hb⟩
   have HV6 := hid (HV5.out.below hb)
   clear hb HV5 c0 c1 c2 c3 c4 c5 c6 c7 c8 c9
   cases h3 : slI r.s with
   | false =>
    obtain rfl : R = false := by rw [← HRV.out]; unfold Rq.right; rw [h1, h2, h3]; rfl
    go_wp2_with fail
    go_ret
    exact ⟨rfl, HV6.out.bel⟩
   | true =>
    have hm := right_mv HR.out h1 h2
    rw [HD.out, HK.out] at hm
    obtain rfl : k = true := hm.2
    have hR : R = (r.a.u == d.1 && r.a.s == d.2.1 && r.a.y == d.2.2) := by rw [← HRV.out, hm.1]; unfold Rq.right; rw [h1, h2, h3]; rfl
    clear hm
    obtain ⟨c0, c1, c2, c3, c4, c5, c6, c7, c8, c9⟩ := Rq.at r (HV6.out.cs 0 rfl)
    obtain ⟨q0, q1, q2⟩ : _ ∧ _ ∧ _ := P3.at d (HV6.out.cs 1 rfl)
    by_cases n1 : d.1 = r.a.u
    ·by_cases n2 : d.2.1 = r.a.s
     ·by_cases n3 : d.2.2 = r.a.y
      ·obtain rfl : R = true := by rw [hR, n1, n2, n3]; simp
       clear hR
       go_wp2_with fail
       go_ret
       exact ⟨rfl, HV6.out.bel⟩
      ·obtain rfl : R = false := by rw [hR, n1, n2]; simp; exact fun e => n3 e.symm
       clear hR
       go_wp2_with fail
       go_ret
       exact ⟨rfl, HV6.out.bel⟩
     ·obtain rfl : R = false := by rw [hR, n1]; simp; exact fun e => absurd e.symm n2
      clear hR
      go_wp2_with fail
      go_ret
      exact ⟨rfl, HV6.out.bel⟩
    ·obtain rfl : R = false := by rw [hR]; simp; exact fun e => absurd e.symm n1
     clear hR
     go_wp2_with fail
     go_ret
     exact ⟨rfl, HV6.out.bel⟩
theorem Ref15.set (r : Rq) (hr : r.In) (w : World) : Calls Tryz.prog 79 #[r.val] w (Ans (.tuple #[Rq.val (r.from_ r.pp).whr.1, .bool (r.from_ r.pp).whr.2]) w) := by
 have HR := hid hr
 have hR2 := setM_in hr
 rw [← setM_whr hr]
 obtain ⟨d, hd⟩ : ∃ d, mvP r.pp r.l = d := ⟨_, rfl⟩
 have HD := hid hd
 have he : r.setM = (Rq.mk (It.mk r.a.t r.a.r r.a.v r.a.i d.1 d.2.1 d.2.2) r.l r.s r.z) := by unfold Rq.setM; rw [hd]
 rw [he] at hR2 ⊢
 have HR2 := hid hR2
 obtain ⟨⟨x, b⟩, hx⟩ : ∃ x, Rq.whr (Rq.mk (It.mk r.a.t r.a.r r.a.v r.a.i d.1 d.2.1 d.2.2) r.l r.s r.z) = x := ⟨_, rfl⟩
 have HX := hid hx
 rw [hx]
 clear hr hd he hR2 hx
 unfold Rq.val
 have HV0 : Hid (VS w [(w.heap.size, r.cells), (w.heap.size + 1, Rq.no.cells)] ((w.alloc (.cells #[.int .u64 r.a.t, .int .u32 r.a.r, .int .u32 r.a.v, .int .i64 r.a.i, .int .u64 r.a.u, .int .u32 r.a.s, .int .u32 r.a.y, .int .u64 r.l, .int .u64 r.s, .bool r.z] 61)).alloc (.cells #[.int .u64 0, .int .u32 0, .int .u32 0, .int .i64 0, .int .u64 0, .int .u32 0, .int .u32 0, .int .u64 0, .int .u64 0, .bool false] 61))) := hid (by have h := (((VS.nil w).new 61 r.cells).new 61 Rq.no.cells); (try simp only [World.size_alloc] at h); exact h)
 go_enter Tryz.func79, Tryz.ntmps79
 go_wp2_with fail
 generalize ((w.alloc (.cells #[.int .u64 r.a.t, .int .u32 r.a.r, .int .u32 r.a.v, .int .i64 r.a.i, .int .u64 r.a.u, .int .u32 r.a.s, .int .u32 r.a.y, .int .u64 r.l, .int .u64 r.s, .bool r.z] 61)).alloc (.cells #[.int .u64 0, .int .u32 0, .int .u32 0, .int .i64 0, .int .u64 0, .int .u32 0, .int .u32 0, .int .u64 0, .int .u64 0, .bool false] 61)) = W0 at HV0 ⊢
 obtain ⟨c0, c1, c2, c3, c4, c5, c6, c7, c8, c9⟩ := Rq.at r (HV0.out.cs 0 rfl)
 go_wp2_with fail
 refine (Ref15.move r.pp (Rq.pp_in HR.out) r.l HR.out.2.1 _).mono ?_
 rw [HD.out]
 rintro e w1 ⟨rfl, hb⟩
 have HV1 := hid (HV0.out.below hb)
 clear hb HV0 c0 c1 c2 c3 c4 c5 c6 c7 c8 c9
 go_wp2_with (first | ((with_reducible refine pvs HV1.out 0 57 [.int .u64 d.1, .int .u32 d.2.1, .int .u32 d.2.2] infoP4 14 11 (w.heap.size) (r.cells) 4 ?vs20002); (intro W2 hW2); (have HV2 := hid hW2); (clear hW2 HV1); (obtain ⟨c0, c1, c2, c3, c4, c5, c6, c7, c8, c9⟩ := Rq.at (Rq.mk (It.mk r.a.t r.a.r r.a.v r.a.i d.1 d.2.1 d.2.2) r.l r.s r.z) (HV2.out.cs 0 rfl))) | fail)
 refine (Ref15.right (Rq.mk (It.mk r.a.t r.a.r r.a.v r.a.i d.1 d.2.1 d.2.2) r.l r.s r.z) HR2.out _).mono ?_
 rintro e w2 ⟨rfl, hb⟩
 have HV3 := hid (HV2.out.below hb)
 clear hb HV2 c0 c1 c2 c3 c4 c5 c6 c7 c8 c9
 cases h1 : Rq.right (Rq.mk (It.mk r.a.t r.a.r r.a.v r.a.i d.1 d.2.1 d.2.2) r.l r.s r.z) with
 | false =>
  obtain ⟨rfl, rfl⟩ : x = Rq.no ∧ b = false := by have := HX.out; unfold Rq.whr at this; rw [h1, if_neg (by decide)] at this; injection this with e1 e2; exact ⟨e1.symm, e2.symm⟩
  go_wp2_with (first | ((with_reducible refine pvs HV3.out 1 61 [.int .u64 0, .int .u32 0, .int .u32 0, .int .i64 0, .int .u64 0, .int .u32 0, .int .u32 0, .int .u64 0, .int .u64 0, .bool false] infoRefReq 2 18 (w.heap.size + 1) (Rq.no.cells) 0 ?vs20003); (intro W2 hW2); (have HV4 := hid hW2); (clear hW2 HV3)) | fail)
  obtain ⟨z0, z1, z2, z3, z4, z5, z6, z7, z8, z9⟩ := Rq.at Rq.no (HV4.out.cs 1 rfl)
  go_wp2_with fail
  refine bodyPost_ret (v := .tuple #[Rq.val Rq.no, .bool false]) (by simp [results, Tryz.results79, go_sem, z0, z1, z2, z3, z4, z5, z6, z7, z8, z9]) rfl ⟨rfl, HV4.out.bel⟩
 | true =>
  obtain ⟨rfl, rfl⟩ : x = (Rq.mk (It.mk r.a.t r.a.r r.a.v r.a.i d.1 d.2.1 d.2.2) r.l r.s r.z) ∧ b = true := by have := HX.out; unfold Rq.whr at this; rw [h1, if_pos rfl] at this; injection this with e1 e2; exact ⟨e1.symm, e2.symm⟩
  obtain ⟨c0, c1, c2, c3, c4, c5, c6, c7, c8, c9⟩ := Rq.at (Rq.mk (It.mk r.a.t r.a.r r.a.v r.a.i d.1 d.2.1 d.2.2) r.l r.s r.z) (HV3.out.cs 0 rfl)
  go_wp2_with (first | ((with_reducible refine pvs HV3.out 1 61 [.int .u64 r.a.t, .int .u32 r.a.r, .int .u32 r.a.v, .int .i64 r.a.i, .int .u64 d.1, .int .u32 d.2.1, .int .u32 d.2.2, .int .u64 r.l, .int .u64 r.s, .bool r.z] infoRefReq 2 19 (w.heap.size + 1) (Rq.no.cells) 0 ?vs20004); (intro W2 hW2); (have HV4 := hid hW2); (clear hW2 HV3)) | fail)
  clear c0 c1 c2 c3 c4 c5 c6 c7 c8 c9
  obtain ⟨z0, z1, z2, z3, z4, z5, z6, z7, z8, z9⟩ := Rq.at (Rq.mk (It.mk r.a.t r.a.r r.a.v r.a.i d.1 d.2.1 d.2.2) r.l r.s r.z) (HV4.out.cs 1 rfl)
  go_wp2_with fail
  refine bodyPost_ret (v := .tuple #[Rq.val (Rq.mk (It.mk r.a.t r.a.r r.a.v r.a.i d.1 d.2.1 d.2.2) r.l r.s r.z), .bool true]) (by simp [results, Tryz.results79, go_sem, z0, z1, z2, z3, z4, z5, z6, z7, z8, z9]) rfl ⟨rfl, HV4.out.bel⟩
theorem Ref15.new (p : P3) (hp : PIn p) (id n : Int) (hi : -9223372036854775808 ≤ id ∧ id ≤ 9223372036854775807) (hn : IsT n) (w : World) : Calls Tryz.prog 28 #[pv p, .int .i64 id, .int .u64 n] w (Ans (.tuple #[Rq.val (Rq.new p id n).1, .bool (Rq.new p id n).2]) w) := by
 have HR0 : Hid (Rq.In (Rq.mk (It.mk p.1 p.2.1 p.2.2 id 0 0 0) n n false)) := hid ⟨by unfold It.In; unfold PIn at hp; simp only; omega, hn, hn⟩
 clear hp hi hn
 obtain ⟨⟨x, b⟩, hx⟩ : ∃ x, Rq.new p id n = x := ⟨_, rfl⟩
 have HX : Hid (Rq.whr (Rq.from_ (Rq.mk (It.mk p.1 p.2.1 p.2.2 id 0 0 0) n n false) (Rq.pp (Rq.mk (It.mk p.1 p.2.1 p.2.2 id 0 0 0) n n false))) = (x, b)) := hid hx
 rw [hx]
 clear hx
 have HV0 : Hid (VS w [(w.heap.size, (pcells p)), (w.heap.size + 1, Rq.no.cells)] ((w.alloc (.cells #[.int .u64 p.1, .int .u32 p.2.1, .int .u32 p.2.2] 57)).alloc (.cells #[.int .u64 0, .int .u32 0, .int .u32 0, .int .i64 0, .int .u64 0, .int .u32 0, .int .u32 0, .int .u64 0, .int .u64 0, .bool false] 61))) := hid (by have h := (((VS.nil w).new 57 (pcells p)).new 61 Rq.no.cells); (try simp only [World.size_alloc] at h); exact h)
 go_enter Tryz.func28, Tryz.ntmps28
 go_wp2_with fail
 generalize ((w.alloc (.cells #[.int .u64 p.1, .int .u32 p.2.1, .int .u32 p.2.2] 57)).alloc (.cells #[.int .u64 0, .int .u32 0, .int .u32 0, .int .i64 0, .int .u64 0, .int .u32 0, .int .u32 0, .int .u64 0, .int .u64 0, .bool false] 61)) = W0 at HV0 ⊢
 obtain ⟨p0, p1, p2⟩ := P3.at p (HV0.out.cs 0 rfl)
 go_wp2_with fail
 refine (Ref15.set (Rq.mk (It.mk p.1 p.2.1 p.2.2 id 0 0 0) n n false) HR0.out _).mono ?_
 rw [HX.out]
 rintro e w1 ⟨rfl, hb⟩
 have HV1 := hid (HV0.out.below hb)
 clear hb HV0 p0 p1 p2
 go_wp2_with (first | ((with_reducible refine pvs HV1.out 1 61 [.int .u64 x.a.t, .int .u32 x.a.r, .int .u32 x.a.v, .int .i64 x.a.i, .int .u64 x.a.u, .int .u32 x.a.s, .int .u32 x.a.y, .int .u64 x.l, .int .u64 x.s, .bool x.z] infoRefReq 6 15 (w.heap.size + 1) (Rq.no.cells) 0 ?vs20005); (intro W2 hW2); (have HV2 := hid hW2); (clear hW2 HV1)) | fail)
 obtain ⟨z0, z1, z2, z3, z4, z5, z6, z7, z8, z9⟩ := Rq.at x (HV2.out.cs 1 rfl)
 go_wp2_with fail
 refine bodyPost_ret (v := .tuple #[Rq.val x, .bool b]) (by simp [results, Tryz.results28, go_sem, z0, z1, z2, z3, z4, z5, z6, z7, z8, z9]) rfl ⟨rfl, HV2.out.bel⟩
theorem Ref15.moved (r : Rq) (hr : r.In) (p : P3) (hp : PIn p) (w : World) : Calls Tryz.prog 31 #[r.val, pv p] w (Ans (.tuple #[Rq.val (r.moved p).1, .bool (r.moved p).2]) w) := by
 have HR := hid hr
 have HR1 : Hid (Rq.In (Rq.mk (It.mk p.1 p.2.1 p.2.2 r.a.i r.a.u r.a.s r.a.y) r.l r.s r.z)) := hid ⟨⟨hp.1, hp.2.1, hp.2.2, hr.1.2.2.2.1, hr.1.2.2.2.2⟩, hr.2⟩
 clear hr hp
 unfold Rq.moved
 cases h1 : r.right with
 | false =>
  rw [if_neg (by decide)]
  have H1 := hid h1
  clear h1
  unfold Rq.val
  have HV0 : Hid (VS w [(w.heap.size, r.cells), (w.heap.size + 1, (pcells p)), (w.heap.size + 2, Rq.no.cells)] (((w.alloc (.cells #[.int .u64 r.a.t, .int .u32 r.a.r, .int .u32 r.a.v, .int .i64 r.a.i, .int .u64 r.a.u, .int .u32 r.a.s, .int .u32 r.a.y, .int .u64 r.l, .int .u64 r.s, .bool r.z] 61)).alloc (.cells #[.int .u64 p.1, .int .u32 p.2.1, .int .u32 p.2.2] 57)).alloc (.cells #[.int .u64 0, .int .u32 0, .int .u32 0, .int .i64 0, .int .u64 0, .int .u32 0, .int .u32 0, .int .u64 0, .int .u64 0, .bool false] 61))) := hid (by have h := ((((VS.nil w).new 61 r.cells).new 57 (pcells p)).new 61 Rq.no.cells); (try simp only [World.size_alloc] at h); exact h)
  go_enter Tryz.func31, Tryz.ntmps31
  go_wp2_with fail
  generalize (((w.alloc (.cells #[.int .u64 r.a.t, .int .u32 r.a.r, .int .u32 r.a.v, .int .i64 r.a.i, .int .u64 r.a.u, .int .u32 r.a.s, .int .u32 r.a.y, .int .u64 r.l, .int .u64 r.s, .bool r.z] 61)).alloc (.cells #[.int .u64 p.1, .int .u32 p.2.1, .int .u32 p.2.2] 57)).alloc (.cells #[.int .u64 0, .int .u32 0, .int .u32 0, .int .i64 0, .int .u64 0, .int .u32 0, .int .u32 0, .int .u64 0, .int .u64 0, .bool false] 61)) = W0 at HV0 ⊢
  obtain ⟨c0, c1, c2, c3, c4, c5, c6, c7, c8, c9⟩ := Rq.at r (HV0.out.cs 0 rfl)
  go_wp2_with fail
  refine (Ref15.right r HR.out _).mono ?_
  rintro e w1 ⟨rfl, hb⟩
  have HV1 := hid (HV0.out.below hb)
  clear hb HV0 
  rw [H1.out]
  clear c0 c1 c2 c3 c4 c5 c6 c7 c8 c9
  go_wp2_with (first | ((with_reducible refine pvs HV1.out 2 61 [.int .u64 0, .int .u32 0, .int .u32 0, .int .i64 0, .int .u64 0, .int .u32 0, .int .u32 0, .int .u64 0, .int .u64 0, .bool false] infoRefReq 4 9 (w.heap.size + 2) (Rq.no.cells) 0 ?vs20006); (intro W2 hW2); (have HV2 := hid hW2); (clear hW2 HV1)) | fail)
  obtain ⟨z0, z1, z2, z3, z4, z5, z6, z7, z8, z9⟩ := Rq.at Rq.no (HV2.out.cs 2 rfl)
  go_wp2_with fail
  refine bodyPost_ret (v := .tuple #[Rq.val Rq.no, .bool false]) (by simp [results, Tryz.results31, go_sem, z0, z1, z2, z3, z4, z5, z6, z7, z8, z9]) rfl ⟨rfl, HV2.out.bel⟩
 | true =>
  rw [if_pos rfl]
  have H1 := hid h1
  clear h1
  obtain ⟨⟨x, b⟩, hx⟩ : ∃ x, (r.from_ p).whr = x := ⟨_, rfl⟩
  have HX : Hid (Rq.whr (Rq.from_ (Rq.mk (It.mk p.1 p.2.1 p.2.2 r.a.i r.a.u r.a.s r.a.y) r.l r.s r.z) (Rq.pp (Rq.mk (It.mk p.1 p.2.1 p.2.2 r.a.i r.a.u r.a.s r.a.y) r.l r.s r.z))) = (x, b)) := hid hx
  rw [hx]
  clear hx
  unfold Rq.val
  have HV0 : Hid (VS w [(w.heap.size, r.cells), (w.heap.size + 1, (pcells p)), (w.heap.size + 2, Rq.no.cells)] (((w.alloc (.cells #[.int .u64 r.a.t, .int .u32 r.a.r, .int .u32 r.a.v, .int .i64 r.a.i, .int .u64 r.a.u, .int .u32 r.a.s, .int .u32 r.a.y, .int .u64 r.l, .int .u64 r.s, .bool r.z] 61)).alloc (.cells #[.int .u64 p.1, .int .u32 p.2.1, .int .u32 p.2.2] 57)).alloc (.cells #[.int .u64 0, .int .u32 0, .int .u32 0, .int .i64 0, .int .u64 0, .int .u32 0, .int .u32 0, .int .u64 0, .int .u64 0, .bool false] 61))) := hid (by have h := ((((VS.nil w).new 61 r.cells).new 57 (pcells p)).new 61 Rq.no.cells); (try simp only [World.size_alloc] at h); exact h)
  go_enter Tryz.func31, Tryz.ntmps31
  go_wp2_with fail
  generalize (((w.alloc (.cells #[.int .u64 r.a.t, .int .u32 r.a.r, .int .u32 r.a.v, .int .i64 r.a.i, .int .u64 r.a.u, .int .u32 r.a.s, .int .u32 r.a.y, .int .u64 r.l, .int .u64 r.s, .bool r.z] 61)).alloc (.cells #[.int .u64 p.1, .int .u32 p.2.1, .int .u32 p.2.2] 57)).alloc (.cells #[.int .u64 0, .int .u32 0, .int .u32 0, .int .i64 0, .int .u64 0, .int .u32 0, .int .u32 0, .int .u64 0, .int .u64 0, .bool false] 61)) = W0 at HV0 ⊢
  obtain ⟨c0, c1, c2, c3, c4, c5, c6, c7, c8, c9⟩ := Rq.at r (HV0.out.cs 0 rfl)
  go_wp2_with fail
  refine (Ref15.right r HR.out _).mono ?_
  rintro e w1 ⟨rfl, hb⟩
  have HV1 := hid (HV0.out.below hb)
  clear hb HV0 
  rw [H1.out]
  clear c0 c1 c2 c3 c4 c5 c6 c7 c8 c9
  obtain ⟨p0, p1, p2⟩ := P3.at p (HV1.out.cs 1 rfl)
  go_wp2_with (first | ((with_reducible refine pvs HV1.out 0 57 [.int .u64 p.1, .int .u32 p.2.1, .int .u32 p.2.2] infoP4 12 10 (w.heap.size) (r.cells) 0 ?vs20007); (intro W2 hW2); (have HV2 := hid hW2); (clear hW2 HV1); (clear p0 p1 p2); (obtain ⟨c0, c1, c2, c3, c4, c5, c6, c7, c8, c9⟩ := Rq.at (Rq.mk (It.mk p.1 p.2.1 p.2.2 r.a.i r.a.u r.a.s r.a.y) r.l r.s r.z) (HV2.out.cs 0 rfl))) | fail)
  refine (Ref15.set (Rq.mk (It.mk p.1 p.2.1 p.2.2 r.a.i r.a.u r.a.s r.a.y) r.l r.s r.z) HR1.out _).mono ?_
  rw [HX.out]
  rintro e w2 ⟨rfl, hb⟩
  have HV3 := hid (HV2.out.below hb)
  clear hb HV2 c0 c1 c2 c3 c4 c5 c6 c7 c8 c9
  go_wp2_with (first | ((with_reducible refine pvs HV3.out 2 61 [.int .u64 x.a.t, .int .u32 x.a.r, .int .u32 x.a.v, .int .i64 x.a.i, .int .u64 x.a.u, .int .u32 x.a.s, .int .u32 x.a.y, .int .u64 x.l, .int .u64 x.s, .bool x.z] infoRefReq 4 15 (w.heap.size + 2) (Rq.no.cells) 0 ?vs20008); (intro W2 hW2); (have HV4 := hid hW2); (clear hW2 HV3)) | fail)
  obtain ⟨z0, z1, z2, z3, z4, z5, z6, z7, z8, z9⟩ := Rq.at x (HV4.out.cs 2 rfl)
  go_wp2_with fail
  refine bodyPost_ret (v := .tuple #[Rq.val x, .bool b]) (by simp [results, Tryz.results31, go_sem, z0, z1, z2, z3, z4, z5, z6, z7, z8, z9]) rfl ⟨rfl, HV4.out.bel⟩
theorem Ref15.sliced (r : Rq) (hr : r.In) (n : Int) (hn : IsT n) (w : World) : Calls Tryz.prog 34 #[r.val, .int .u64 n] w (Ans (.tuple #[Rq.val (r.sliced n).1, .bool (r.sliced n).2]) w) := by
 have HR := hid hr
 have HR3 : Hid (Rq.In (Rq.mk r.a r.l n r.z)) := hid ⟨hr.1, hr.2.1, hn⟩
 unfold Rq.sliced
 cases h1 : r.right with
 | false =>
  rw [if_neg (by decide)]
  have H1 := hid h1
  clear h1 hr hn
  unfold Rq.val
  have HV0 : Hid (VS w [(w.heap.size, r.cells), (w.heap.size + 1, Rq.no.cells)] ((w.alloc (.cells #[.int .u64 r.a.t, .int .u32 r.a.r, .int .u32 r.a.v, .int .i64 r.a.i, .int .u64 r.a.u, .int .u32 r.a.s, .int .u32 r.a.y, .int .u64 r.l, .int .u64 r.s, .bool r.z] 61)).alloc (.cells #[.int .u64 0, .int .u32 0, .int .u32 0, .int .i64 0, .int .u64 0, .int .u32 0, .int .u32 0, .int .u64 0, .int .u64 0, .bool false] 61))) := hid (by have h := (((VS.nil w).new 61 r.cells).new 61 Rq.no.cells); (try simp only [World.size_alloc] at h); exact h)
  go_enter Tryz.func34, Tryz.ntmps34
  go_wp2_with fail
  generalize ((w.alloc (.cells #[.int .u64 r.a.t, .int .u32 r.a.r, .int .u32 r.a.v, .int .i64 r.a.i, .int .u64 r.a.u, .int .u32 r.a.s, .int .u32 r.a.y, .int .u64 r.l, .int .u64 r.s, .bool r.z] 61)).alloc (.cells #[.int .u64 0, .int .u32 0, .int .u32 0, .int .i64 0, .int .u64 0, .int .u32 0, .int .u32 0, .int .u64 0, .int .u64 0, .bool false] 61)) = W0 at HV0 ⊢
  obtain ⟨c0, c1, c2, c3, c4, c5, c6, c7, c8, c9⟩ := Rq.at r (HV0.out.cs 0 rfl)
  go_wp2_with fail
  refine (Ref15.right r HR.out _).mono ?_
  rintro e w1 ⟨rfl, hb⟩
  have HV1 := hid (HV0.out.below hb)
  clear hb HV0 
  rw [H1.out]
  clear c0 c1 c2 c3 c4 c5 c6 c7 c8 c9
  go_wp2_with (first | ((with_reducible refine pvs HV1.out 1 61 [.int .u64 0, .int .u32 0, .int .u32 0, .int .i64 0, .int .u64 0, .int .u32 0, .int .u32 0, .int .u64 0, .int .u64 0, .bool false] infoRefReq 4 9 (w.heap.size + 1) (Rq.no.cells) 0 ?vs20009); (intro W2 hW2); (have HV2 := hid hW2); (clear hW2 HV1)) | fail)
  obtain ⟨z0, z1, z2, z3, z4, z5, z6, z7, z8, z9⟩ := Rq.at Rq.no (HV2.out.cs 1 rfl)
  go_wp2_with fail
  refine bodyPost_ret (v := .tuple #[Rq.val Rq.no, .bool false]) (by simp [results, Tryz.results34, go_sem, z0, z1, z2, z3, z4, z5, z6, z7, z8, z9]) rfl ⟨rfl, HV2.out.bel⟩
 | true =>
  rw [if_pos rfl]
  have H1 := hid h1
  have hfe : Rq.from_ (Rq.mk r.a r.l n r.z) (Rq.pp (Rq.mk r.a r.l n r.z)) = (Rq.mk r.a r.l n r.z) := by
   have e := right_eq hr h1
   have : Rq.from_ (Rq.mk r.a r.l n r.z) (Rq.pp (Rq.mk r.a r.l n r.z)) = Rq.mk (r.from_ r.pp).a r.l n r.z := rfl
   rw [this, e]
  clear h1 hr hn
  obtain ⟨⟨x, b⟩, hx⟩ : ∃ x, Rq.whr (Rq.mk r.a r.l n r.z) = x := ⟨_, rfl⟩
  have HX : Hid (Rq.whr (Rq.from_ (Rq.mk r.a r.l n r.z) (Rq.pp (Rq.mk r.a r.l n r.z))) = (x, b)) := hid (by rw [hfe]; exact hx)
  rw [hx]
  clear hx hfe
  unfold Rq.val
  have HV0 : Hid (VS w [(w.heap.size, r.cells), (w.heap.size + 1, Rq.no.cells)] ((w.alloc (.cells #[.int .u64 r.a.t, .int .u32 r.a.r, .int .u32 r.a.v, .int .i64 r.a.i, .int .u64 r.a.u, .int .u32 r.a.s, .int .u32 r.a.y, .int .u64 r.l, .int .u64 r.s, .bool r.z] 61)).alloc (.cells #[.int .u64 0, .int .u32 0, .int .u32 0, .int .i64 0, .int .u64 0, .int .u32 0, .int .u32 0, .int .u64 0, .int .u64 0, .bool false] 61))) := hid (by have h := (((VS.nil w).new 61 r.cells).new 61 Rq.no.cells); (try simp only [World.size_alloc] at h); exact h)
  go_enter Tryz.func34, Tryz.ntmps34
  go_wp2_with fail
  generalize ((w.alloc (.cells #[.int .u64 r.a.t, .int .u32 r.a.r, .int .u32 r.a.v, .int .i64 r.a.i, .int .u64 r.a.u, .int .u32 r.a.s, .int .u32 r.a.y, .int .u64 r.l, .int .u64 r.s, .bool r.z] 61)).alloc (.cells #[.int .u64 0, .int .u32 0, .int .u32 0, .int .i64 0, .int .u64 0, .int .u32 0, .int .u32 0, .int .u64 0, .int .u64 0, .bool false] 61)) = W0 at HV0 ⊢
  obtain ⟨c0, c1, c2, c3, c4, c5, c6, c7, c8, c9⟩ := Rq.at r (HV0.out.cs 0 rfl)
  go_wp2_with fail
  refine (Ref15.right r HR.out _).mono ?_
  rintro e w1 ⟨rfl, hb⟩
  have HV1 := hid (HV0.out.below hb)
  clear hb HV0 
  rw [H1.out]
  clear c0 c1 c2 c3 c4 c5 c6 c7 c8 c9
  obtain ⟨c0, c1, c2, c3, c4, c5, c6, c7, c8, c9⟩ := Rq.at r (HV1.out.cs 0 rfl)
  have f8 := (HV1.out.cs 0 rfl 8 _ rfl).2
  go_wp2_with fail
  refine (Ref15.set (Rq.mk r.a r.l n r.z) HR3.out _).mono ?_
  rw [HX.out]
  rintro e w2 ⟨rfl, hb⟩
  have HV2 : Hid (VS w [(w.heap.size, (Rq.mk r.a r.l n r.z).cells), (w.heap.size + 1, Rq.no.cells)] w2) := hid ((HV1.out.put1 0 rfl 8 (.int .u64 n) (of_decide_eq_true rfl)).below hb)
  clear hb HV1 f8 c0 c1 c2 c3 c4 c5 c6 c7 c8 c9
  go_wp2_with (first | ((with_reducible refine pvs HV2.out 1 61 [.int .u64 x.a.t, .int .u32 x.a.r, .int .u32 x.a.v, .int .i64 x.a.i, .int .u64 x.a.u, .int .u32 x.a.s, .int .u32 x.a.y, .int .u64 x.l, .int .u64 x.s, .bool x.z] infoRefReq 4 14 (w.heap.size + 1) (Rq.no.cells) 0 ?vs20010); (intro W2 hW2); (have HV3 := hid hW2); (clear hW2 HV2)) | fail)
  obtain ⟨z0, z1, z2, z3, z4, z5, z6, z7, z8, z9⟩ := Rq.at x (HV3.out.cs 1 rfl)
  go_wp2_with fail
  refine bodyPost_ret (v := .tuple #[Rq.val x, .bool b]) (by simp [results, Tryz.results34, go_sem, z0, z1, z2, z3, z4, z5, z6, z7, z8, z9]) rfl ⟨rfl, HV3.out.bel⟩
end


section
open Go.RowKit
set_option maxRecDepth 100000
set_option maxHeartbeats 32000000
theorem Ref15.serve (r : Rq) (hr : r.In) (n : Int) (hn : IsT n) (w : World) : Calls Tryz.prog 38 #[r.val, .int .u64 n] w (Ans (.tuple #[Rq.val (r.serve n).1, .bool (r.serve n).2.1, .bool (r.serve n).2.2]) w) := by
 have HR := hid hr
 have HN := hid hn
 unfold Rq.serve
 cases h1 : r.right with
 | false =>
  have E : Hid (r.srvOk n = false) := hid (by unfold Rq.srvOk; rw [h1]; rfl)
  rw [E.out, if_neg (by decide)]
  have H1 := hid h1
  clear h1 hr hn
  unfold Rq.val
  have HV0 : Hid (VS w [(w.heap.size, r.cells), (w.heap.size + 1, Rq.no.cells)] ((w.alloc (.cells #[.int .u64 r.a.t, .int .u32 r.a.r, .int .u32 r.a.v, .int .i64 r.a.i, .int .u64 r.a.u, .int .u32 r.a.s, .int .u32 r.a.y, .int .u64 r.l, .int .u64 r.s, .bool r.z] 61)).alloc (.cells #[.int .u64 0, .int .u32 0, .int .u32 0, .int .i64 0, .int .u64 0, .int .u32 0, .int .u32 0, .int .u64 0, .int .u64 0, .bool false] 61))) := hid (by have h := (((VS.nil w).new 61 r.cells).new 61 Rq.no.cells); (try simp only [World.size_alloc] at h); exact h)
  go_enter Tryz.func38, Tryz.ntmps38
  go_wp2_with fail
  generalize ((w.alloc (.cells #[.int .u64 r.a.t, .int .u32 r.a.r, .int .u32 r.a.v, .int .i64 r.a.i, .int .u64 r.a.u, .int .u32 r.a.s, .int .u32 r.a.y, .int .u64 r.l, .int .u64 r.s, .bool r.z] 61)).alloc (.cells #[.int .u64 0, .int .u32 0, .int .u32 0, .int .i64 0, .int .u64 0, .int .u32 0, .int .u32 0, .int .u64 0, .int .u64 0, .bool false] 61)) = W0 at HV0 ⊢
  obtain ⟨c0, c1, c2, c3, c4, c5, c6, c7, c8, c9⟩ := Rq.at r (HV0.out.cs 0 rfl)
  go_wp2_with fail
  refine (Ref15.right r HR.out _).mono ?_
  rintro e w1 ⟨rfl, hb⟩
  have HV1 := hid (HV0.out.below hb)
  clear hb HV0 
  rw [H1.out]
  clear c0 c1 c2 c3 c4 c5 c6 c7 c8 c9
  obtain ⟨c0, c1, c2, c3, c4, c5, c6, c7, c8, c9⟩ := Rq.at r (HV1.out.cs 0 rfl)
  go_wp2_with (first | ((with_reducible refine pvs HV1.out 1 61 [.int .u64 0, .int .u32 0, .int .u32 0, .int .i64 0, .int .u64 0, .int .u32 0, .int .u32 0, .int .u64 0, .int .u64 0, .bool false] infoRefReq 4 23 (w.heap.size + 1) (Rq.no.cells) 0 ?vs24001); (intro W2 hW2); (have HV2 := hid hW2); (clear hW2 HV1)) | fail)
  obtain ⟨z0, z1, z2, z3, z4, z5, z6, z7, z8, z9⟩ := Rq.at Rq.no (HV2.out.cs 1 rfl)
  go_wp2_with fail
  refine bodyPost_ret (v := .tuple #[Rq.val Rq.no, .bool false, .bool false]) (by simp [results, Tryz.results38, go_sem, z0, z1, z2, z3, z4, z5, z6, z7, z8, z9]) rfl ⟨rfl, HV2.out.bel⟩
 | true =>
  have H1 := hid h1
  by_cases h2 : n < 1
  ·have E : Hid (r.srvOk n = false) := hid (by unfold Rq.srvOk; rw [h1]; simp; omega)
   rw [E.out, if_neg (by decide)]
   clear h1 hr hn
   unfold Rq.val
   have HV0 : Hid (VS w [(w.heap.size, r.cells), (w.heap.size + 1, Rq.no.cells)] ((w.alloc (.cells #[.int .u64 r.a.t, .int .u32 r.a.r, .int .u32 r.a.v, .int .i64 r.a.i, .int .u64 r.a.u, .int .u32 r.a.s, .int .u32 r.a.y, .int .u64 r.l, .int .u64 r.s, .bool r.z] 61)).alloc (.cells #[.int .u64 0, .int .u32 0, .int .u32 0, .int .i64 0, .int .u64 0, .int .u32 0, .int .u32 0, .int .u64 0, .int .u64 0, .bool false] 61))) := hid (by have h := (((VS.nil w).new 61 r.cells).new 61 Rq.no.cells); (try simp only [World.size_alloc] at h); exact h)
   go_enter Tryz.func38, Tryz.ntmps38
   go_wp2_with fail
   generalize ((w.alloc (.cells #[.int .u64 r.a.t, .int .u32 r.a.r, .int .u32 r.a.v, .int .i64 r.a.i, .int .u64 r.a.u, .int .u32 r.a.s, .int .u32 r.a.y, .int .u64 r.l, .int .u64 r.s, .bool r.z] 61)).alloc (.cells #[.int .u64 0, .int .u32 0, .int .u32 0, .int .i64 0, .int .u64 0, .int .u32 0, .int .u32 0, .int .u64 0, .int .u64 0, .bool false] 61)) = W0 at HV0 ⊢
   obtain ⟨c0, c1, c2, c3, c4, c5, c6, c7, c8, c9⟩ := Rq.at r (HV0.out.cs 0 rfl)
   go_wp2_with fail
   refine (Ref15.right r HR.out _).mono ?_
   rintro e w1 ⟨rfl, hb⟩
   have HV1 := hid (HV0.out.below hb)
   clear hb HV0 
   rw [H1.out]
   clear c0 c1 c2 c3 c4 c5 c6 c7 c8 c9
   obtain ⟨c0, c1, c2, c3, c4, c5, c6, c7, c8, c9⟩ := Rq.at r (HV1.out.cs 0 rfl)
   go_wp2_with (first | ((with_reducible refine pvs HV1.out 1 61 [.int .u64 0, .int .u32 0, .int .u32 0, .int .i64 0, .int .u64 0, .int .u32 0, .int .u32 0, .int .u64 0, .int .u64 0, .bool false] infoRefReq 4 23 (w.heap.size + 1) (Rq.no.cells) 0 ?vs24002); (intro W2 hW2); (have HV2 := hid hW2); (clear hW2 HV1)) | fail)
   obtain ⟨z0, z1, z2, z3, z4, z5, z6, z7, z8, z9⟩ := Rq.at Rq.no (HV2.out.cs 1 rfl)
   go_wp2_with fail
   refine bodyPost_ret (v := .tuple #[Rq.val Rq.no, .bool false, .bool false]) (by simp [results, Tryz.results38, go_sem, z0, z1, z2, z3, z4, z5, z6, z7, z8, z9]) rfl ⟨rfl, HV2.out.bel⟩
  ·by_cases h3 : r.l < n
   ·have E : Hid (r.srvOk n = false) := hid (by unfold Rq.srvOk; rw [h1]; simp; omega)
    rw [E.out, if_neg (by decide)]
    clear h1 hr hn
    unfold Rq.val
    have HV0 : Hid (VS w [(w.heap.size, r.cells), (w.heap.size + 1, Rq.no.cells)] ((w.alloc (.cells #[.int .u64 r.a.t, .int .u32 r.a.r, .int .u32 r.a.v, .int .i64 r.a.i, .int .u64 r.a.u, .int .u32 r.a.s, .int .u32 r.a.y, .int .u64 r.l, .int .u64 r.s, .bool r.z] 61)).alloc (.cells #[.int .u64 0, .int .u32 0, .int .u32 0, .int .i64 0, .int .u64 0, .int .u32 0, .int .u32 0, .int .u64 0, .int .u64 0, .bool false] 61))) := hid (by have h := (((VS.nil w).new 61 r.cells).new 61 Rq.no.cells); (try simp only [World.size_alloc] at h); exact h)
    go_enter Tryz.func38, Tryz.ntmps38
    go_wp2_with fail
    generalize ((w.alloc (.cells #[.int .u64 r.a.t, .int .u32 r.a.r, .int .u32 r.a.v, .int .i64 r.a.i, .int .u64 r.a.u, .int .u32 r.a.s, .int .u32 r.a.y, .int .u64 r.l, .int .u64 r.s, .bool r.z] 61)).alloc (.cells #[.int .u64 0, .int .u32 0, .int .u32 0, .int .i64 0, .int .u64 0, .int .u32 0, .int .u32 0, .int .u64 0, .int .u64 0, .bool false] 61)) = W0 at HV0 ⊢
    obtain ⟨c0, c1, c2, c3, c4, c5, c6, c7, c8, c9⟩ := Rq.at r (HV0.out.cs 0 rfl)
    go_wp2_with fail
    refine (Ref15.right r HR.out _).mono ?_
    rintro e w1 ⟨rfl, hb⟩
    have HV1 := hid (HV0.out.below hb)
    clear hb HV0 
    rw [H1.out]
    clear c0 c1 c2 c3 c4 c5 c6 c7 c8 c9
    obtain ⟨c0, c1, c2, c3, c4, c5, c6, c7, c8, c9⟩ := Rq.at r (HV1.out.cs 0 rfl)
    go_wp2_with (first | ((with_reducible refine pvs HV1.out 1 61 [.int .u64 0, .int .u32 0, .int .u32 0, .int .i64 0, .int .u64 0, .int .u32 0, .int .u32 0, .int .u64 0, .int .u64 0, .bool false] infoRefReq 4 23 (w.heap.size + 1) (Rq.no.cells) 0 ?vs24003); (intro W2 hW2); (have HV2 := hid hW2); (clear hW2 HV1)) | fail)
    obtain ⟨z0, z1, z2, z3, z4, z5, z6, z7, z8, z9⟩ := Rq.at Rq.no (HV2.out.cs 1 rfl)
    go_wp2_with fail
    refine bodyPost_ret (v := .tuple #[Rq.val Rq.no, .bool false, .bool false]) (by simp [results, Tryz.results38, go_sem, z0, z1, z2, z3, z4, z5, z6, z7, z8, z9]) rfl ⟨rfl, HV2.out.bel⟩
   ·have C1 := hid h2
    have C2 := hid h3
    have HB : Hid (1 ≤ n ∧ n ≤ r.l) := hid (by omega)
    have E : Hid (r.srvOk n = true) := hid (by unfold Rq.srvOk; rw [h1]; simp; exact HB.out)
    rw [E.out, if_pos rfl]
    obtain ⟨g1, g2, g3, g4, g5, g6⟩ := right_parts hr h1
    have gl := slI_iff.1 g3
    obtain ⟨e1, e2⟩ := mv_due (p := r.pp) g1 (n := n) (by omega) (by omega)
    have HKO := hid e2
    obtain ⟨p, hp⟩ : ∃ p, dueP r.pp n = p := ⟨_, rfl⟩
    have HPI : Hid (PIn p) := hid (by rw [← hp]; exact dueP_in (Rq.pp_in hr) n)
    have HP : Hid (mvP r.pp n = p) := hid (e1.trans hp)
    have E2 : Hid (IntKind.u64.wrap (r.l - n) = r.l - n) := hid (by have := hr.2.1; unfold IsT at this; rw [IntKind.wrap_u64]; omega)
    obtain ⟨⟨x, b⟩, hx⟩ : ∃ x, (r.went n).whr = x := ⟨_, rfl⟩
    rw [hx]
    cases h4 : decide (r.l = n) with
    | true =>
     have h5 : r.l = n := of_decide_eq_true h4
     have C3 : Hid ((r.l - n == 0) = true) := hid (by rw [h5]; simp)
     have HR5 : Hid (Rq.In (Rq.mk (It.mk p.1 p.2.1 p.2.2 r.a.i r.a.u r.a.s r.a.y) r.s r.s r.z)) := hid ⟨⟨HPI.out.1, HPI.out.2.1, HPI.out.2.2, hr.1.2.2.2.1, hr.1.2.2.2.2⟩, hr.2.2, hr.2.2⟩
     have HX : Hid (Rq.whr (Rq.from_ (Rq.mk (It.mk p.1 p.2.1 p.2.2 r.a.i r.a.u r.a.s r.a.y) r.s r.s r.z) (Rq.pp (Rq.mk (It.mk p.1 p.2.1 p.2.2 r.a.i r.a.u r.a.s r.a.y) r.s r.s r.z))) = (x, b)) := hid (by rw [← hx, ← hp]; unfold Rq.went Rq.left; rw [if_pos h5]; rfl)
     clear h1 h2 h3 h4 h5 hr hn hp hx g1 g2 g3 g4 g5 g6 gl e1 e2
     unfold Rq.val
     have HV0 : Hid (VS w [(w.heap.size, r.cells), (w.heap.size + 1, Rq.no.cells)] ((w.alloc (.cells #[.int .u64 r.a.t, .int .u32 r.a.r, .int .u32 r.a.v, .int .i64 r.a.i, .int .u64 r.a.u, .int .u32 r.a.s, .int .u32 r.a.y, .int .u64 r.l, .int .u64 r.s, .bool r.z] 61)).alloc (.cells #[.int .u64 0, .int .u32 0, .int .u32 0, .int .i64 0, .int .u64 0, .int .u32 0, .int .u32 0, .int .u64 0, .int .u64 0, .bool false] 61))) := hid (by have h := (((VS.nil w).new 61 r.cells).new 61 Rq.no.cells); (try simp only [World.size_alloc] at h); exact h)
     go_enter Tryz.func38, Tryz.ntmps38
     go_wp2_with fail
     generalize ((w.alloc (.cells #[.int .u64 r.a.t, .int .u32 r.a.r, .int .u32 r.a.v, .int .i64 r.a.i, .int .u64 r.a.u, .int .u32 r.a.s, .int .u32 r.a.y, .int .u64 r.l, .int .u64 r.s, .bool r.z] 61)).alloc (.cells #[.int .u64 0, .int .u32 0, .int .u32 0, .int .i64 0, .int .u64 0, .int .u32 0, .int .u32 0, .int .u64 0, .int .u64 0, .bool false] 61)) = W0 at HV0 ⊢
     obtain ⟨c0, c1, c2, c3, c4, c5, c6, c7, c8, c9⟩ := Rq.at r (HV0.out.cs 0 rfl)
     go_wp2_with fail
     refine (Ref15.right r HR.out _).mono ?_
     rintro e w1 ⟨rfl, hb⟩
     have HV1 := hid (HV0.out.below hb)
     clear hb HV0 
     rw [H1.out]
     clear c0 c1 c2 c3 c4 c5 c6 c7 c8 c9
     obtain ⟨c0, c1, c2, c3, c4, c5, c6, c7, c8, c9⟩ := Rq.at r (HV1.out.cs 0 rfl)
     have k11 := C1.out
     have k12 := C2.out
     go_wp2_with fail
     refine (Ref15.move r.pp (Rq.pp_in HR.out) n HN.out _).mono ?_
     rw [HP.out, HKO.out]
     rintro e w2 ⟨rfl, hb⟩
     have HV2 := hid (HV1.out.below hb)
     clear hb HV1 k11 k12 c0 c1 c2 c3 c4 c5 c6 c7 c8 c9
     have HV3 : Hid (VS w _ (w2.alloc (.cells #[.int .u64 0, .int .u32 0, .int .u32 0] 57))) := hid (HV2.out.new 57 [.int .u64 0, .int .u32 0, .int .u32 0])
     clear HV2
     have e2 : IntKind.u64.wrap (r.l - n) = r.l - n := E2.out
     go_upto_region 8 with (first | ((with_reducible refine pvs HV3.out 2 57 [.int .u64 p.1, .int .u32 p.2.1, .int .u32 p.2.2] infoP4 7 30 (w2.heap.size) ([.int .u64 0, .int .u32 0, .int .u32 0]) 0 ?vs24004); (intro W2 hW2); (have HV4 := hid hW2); (clear hW2 HV3); (obtain ⟨p0, p1, p2⟩ := P3.at p (HV4.out.cs 2 rfl))) | ((with_reducible refine pvs HV4.out 0 57 [.int .u64 p.1, .int .u32 p.2.1, .int .u32 p.2.2] infoP4 37 35 (w.heap.size) (r.cells) 0 ?vs24005); (intro W2 hW2); (have HV5 := hid hW2); (clear hW2 HV4); (clear p0 p1 p2); (obtain ⟨c0, c1, c2, c3, c4, c5, c6, c7, c8, c9⟩ := Rq.at (Rq.mk (It.mk p.1 p.2.1 p.2.2 r.a.i r.a.u r.a.s r.a.y) r.l r.s r.z) (HV5.out.cs 0 rfl)); (have f7 := (HV5.out.cs 0 rfl 7 _ rfl).2)) | fail)
     obtain ⟨W3, hW3⟩ : ∃ W3, W3 = W2.setCell ⟨w.heap.size, 7, none⟩ (.int .u64 (r.l - n)) := ⟨_, rfl⟩
     have HV6 : Hid (VS w [(w.heap.size, (Rq.mk (It.mk p.1 p.2.1 p.2.2 r.a.i r.a.u r.a.s r.a.y) (r.l - n) r.s r.z).cells), (w.heap.size + 1, Rq.no.cells), (w2.heap.size, [.int .u64 p.1, .int .u32 p.2.1, .int .u32 p.2.2])] W3) := hid (by rw [hW3]; exact HV5.out.put1 0 rfl 7 (.int .u64 (r.l - n)) (of_decide_eq_true rfl))
     rw [← hW3]
     clear hW3 HV5 e2 f7 c0 c1 c2 c3 c4 c5 c6 c7 c8 c9
     obtain ⟨c0, c1, c2, c3, c4, c5, c6, c7, c8, c9⟩ := Rq.at (Rq.mk (It.mk p.1 p.2.1 p.2.2 r.a.i r.a.u r.a.s r.a.y) (r.l - n) r.s r.z) (HV6.out.cs 0 rfl)
     have k3 := C3.out
     have f7 := (HV6.out.cs 0 rfl 7 _ rfl).2
     go_upto_region 11 with fail
     obtain ⟨W4, hW4⟩ : ∃ W4, W4 = W3.setCell ⟨w.heap.size, 7, none⟩ (.int .u64 r.s) := ⟨_, rfl⟩
     have HV7 : Hid (VS w [(w.heap.size, (Rq.mk (It.mk p.1 p.2.1 p.2.2 r.a.i r.a.u r.a.s r.a.y) r.s r.s r.z).cells), (w.heap.size + 1, Rq.no.cells), (w2.heap.size, [.int .u64 p.1, .int .u32 p.2.1, .int .u32 p.2.2])] W4) := hid (by rw [hW4]; exact HV6.out.put1 0 rfl 7 (.int .u64 r.s) (of_decide_eq_true rfl))
     rw [← hW4]
     clear hW4 HV6 k3 f7 c0 c1 c2 c3 c4 c5 c6 c7 c8 c9
     obtain ⟨c0, c1, c2, c3, c4, c5, c6, c7, c8, c9⟩ := Rq.at (Rq.mk (It.mk p.1 p.2.1 p.2.2 r.a.i r.a.u r.a.s r.a.y) r.s r.s r.z) (HV7.out.cs 0 rfl)
     go_wp2_with fail
     refine (Ref15.set (Rq.mk (It.mk p.1 p.2.1 p.2.2 r.a.i r.a.u r.a.s r.a.y) r.s r.s r.z) HR5.out _).mono ?_
     rw [HX.out]
     rintro e w3 ⟨rfl, hb⟩
     have HV8 := hid (HV7.out.below hb)
     clear hb HV7 c0 c1 c2 c3 c4 c5 c6 c7 c8 c9
     go_wp2_with (first | ((with_reducible refine pvs HV8.out 0 61 [.int .u64 x.a.t, .int .u32 x.a.r, .int .u32 x.a.v, .int .i64 x.a.i, .int .u64 x.a.u, .int .u32 x.a.s, .int .u32 x.a.y, .int .u64 x.l, .int .u64 x.s, .bool x.z] infoRefReq 2 53 (w.heap.size) ((Rq.mk (It.mk p.1 p.2.1 p.2.2 r.a.i r.a.u r.a.s r.a.y) r.s r.s r.z).cells) 0 ?vs24006); (intro W2 hW2); (have HV9 := hid hW2); (clear hW2 HV8); (obtain ⟨c0, c1, c2, c3, c4, c5, c6, c7, c8, c9⟩ := Rq.at x (HV9.out.cs 0 rfl))) | ((with_reducible refine pvs HV9.out 1 61 [.int .u64 x.a.t, .int .u32 x.a.r, .int .u32 x.a.v, .int .i64 x.a.i, .int .u64 x.a.u, .int .u32 x.a.s, .int .u32 x.a.y, .int .u64 x.l, .int .u64 x.s, .bool x.z] infoRefReq 4 55 (w.heap.size + 1) (Rq.no.cells) 0 ?vs24007); (intro W2 hW2); (have HV10 := hid hW2); (clear hW2 HV9); (clear c0 c1 c2 c3 c4 c5 c6 c7 c8 c9)) | fail)
     obtain ⟨z0, z1, z2, z3, z4, z5, z6, z7, z8, z9⟩ := Rq.at x (HV10.out.cs 1 rfl)
     go_wp2_with fail
     refine bodyPost_ret (v := .tuple #[Rq.val x, .bool b, .bool b]) (by simp [results, Tryz.results38, go_sem, z0, z1, z2, z3, z4, z5, z6, z7, z8, z9]) rfl ⟨rfl, HV10.out.bel⟩
    | false =>
     have h5 : ¬ r.l = n := of_decide_eq_false h4
     have C3 : Hid ((r.l - n == 0) = false) := hid (by simp; omega)
     have HR5 : Hid (Rq.In (Rq.mk (It.mk p.1 p.2.1 p.2.2 r.a.i r.a.u r.a.s r.a.y) (r.l - n) r.s r.z)) := hid ⟨⟨HPI.out.1, HPI.out.2.1, HPI.out.2.2, hr.1.2.2.2.1, hr.1.2.2.2.2⟩, show IsT (r.l - n) by have := HB.out; have := hr.2.1; unfold IsT at *; omega, hr.2.2⟩
     have HX : Hid (Rq.whr (Rq.from_ (Rq.mk (It.mk p.1 p.2.1 p.2.2 r.a.i r.a.u r.a.s r.a.y) (r.l - n) r.s r.z) (Rq.pp (Rq.mk (It.mk p.1 p.2.1 p.2.2 r.a.i r.a.u r.a.s r.a.y) (r.l - n) r.s r.z))) = (x, b)) := hid (by rw [← hx, ← hp]; unfold Rq.went Rq.left; rw [if_neg h5]; rfl)
     clear h1 h2 h3 h4 h5 hr hn hp hx g1 g2 g3 g4 g5 g6 gl e1 e2
     unfold Rq.val
     have HV0 : Hid (VS w [(w.heap.size, r.cells), (w.heap.size + 1, Rq.no.cells)] ((w.alloc (.cells #[.int .u64 r.a.t, .int .u32 r.a.r, .int .u32 r.a.v, .int .i64 r.a.i, .int .u64 r.a.u, .int .u32 r.a.s, .int .u32 r.a.y, .int .u64 r.l, .int .u64 r.s, .bool r.z] 61)).alloc (.cells #[.int .u64 0, .int .u32 0, .int .u32 0, .int .i64 0, .int .u64 0, .int .u32 0, .int .u32 0, .int .u64 0, .int .u64 0, .bool false] 61))) := hid (by have h := (((VS.nil w).new 61 r.cells).new 61 Rq.no.cells); (try simp only [World.size_alloc] at h); exact h)
     go_enter Tryz.func38, Tryz.ntmps38
     go_wp2_with fail
     generalize ((w.alloc (.cells #[.int .u64 r.a.t, .int .u32 r.a.r, .int .u32 r.a.v, .int .i64 r.a.i, .int .u64 r.a.u, .int .u32 r.a.s, .int .u32 r.a.y, .int .u64 r.l, .int .u64 r.s, .bool r.z] 61)).alloc (.cells #[.int .u64 0, .int .u32 0, .int .u32 0, .int .i64 0, .int .u64 0, .int .u32 0, .int .u32 0, .int .u64 0, .int .u64 0, .bool false] 61)) = W0 at HV0 ⊢
     obtain ⟨c0, c1, c2, c3, c4, c5, c6, c7, c8, c9⟩ := Rq.at r (HV0.out.cs 0 rfl)
     go_wp2_with fail
     refine (Ref15.right r HR.out _).mono ?_
     rintro e w1 ⟨rfl, hb⟩
     have HV1 := hid (HV0.out.below hb)
     clear hb HV0 
     rw [H1.out]
     clear c0 c1 c2 c3 c4 c5 c6 c7 c8 c9
     obtain ⟨c0, c1, c2, c3, c4, c5, c6, c7, c8, c9⟩ := Rq.at r (HV1.out.cs 0 rfl)
     have k11 := C1.out
     have k12 := C2.out
     go_wp2_with fail
     refine (Ref15.move r.pp (Rq.pp_in HR.out) n HN.out _).mono ?_
     rw [HP.out, HKO.out]
     rintro e w2 ⟨rfl, hb⟩
     have HV2 := hid (HV1.out.below hb)
     clear hb HV1 k11 k12 c0 c1 c2 c3 c4 c5 c6 c7 c8 c9
     have HV3 : Hid (VS w _ (w2.alloc (.cells #[.int .u64 0, .int .u32 0, .int .u32 0] 57))) := hid (HV2.out.new 57 [.int .u64 0, .int .u32 0, .int .u32 0])
     clear HV2
     have e2 : IntKind.u64.wrap (r.l - n) = r.l - n := E2.out
     go_upto_region 8 with (first | ((with_reducible refine pvs HV3.out 2 57 [.int .u64 p.1, .int .u32 p.2.1, .int .u32 p.2.2] infoP4 7 30 (w2.heap.size) ([.int .u64 0, .int .u32 0, .int .u32 0]) 0 ?vs24008); (intro W2 hW2); (have HV4 := hid hW2); (clear hW2 HV3); (obtain ⟨p0, p1, p2⟩ := P3.at p (HV4.out.cs 2 rfl))) | ((with_reducible refine pvs HV4.out 0 57 [.int .u64 p.1, .int .u32 p.2.1, .int .u32 p.2.2] infoP4 37 35 (w.heap.size) (r.cells) 0 ?vs24009); (intro W2 hW2); (have HV5 := hid hW2); (clear hW2 HV4); (clear p0 p1 p2); (obtain ⟨c0, c1, c2, c3, c4, c5, c6, c7, c8, c9⟩ := Rq.at (Rq.mk (It.mk p.1 p.2.1 p.2.2 r.a.i r.a.u r.a.s r.a.y) r.l r.s r.z) (HV5.out.cs 0 rfl)); (have f7 := (HV5.out.cs 0 rfl 7 _ rfl).2)) | fail)
     obtain ⟨W3, hW3⟩ : ∃ W3, W3 = W2.setCell ⟨w.heap.size, 7, none⟩ (.int .u64 (r.l - n)) := ⟨_, rfl⟩
     have HV6 : Hid (VS w [(w.heap.size, (Rq.mk (It.mk p.1 p.2.1 p.2.2 r.a.i r.a.u r.a.s r.a.y) (r.l - n) r.s r.z).cells), (w.heap.size + 1, Rq.no.cells), (w2.heap.size, [.int .u64 p.1, .int .u32 p.2.1, .int .u32 p.2.2])] W3) := hid (by rw [hW3]; exact HV5.out.put1 0 rfl 7 (.int .u64 (r.l - n)) (of_decide_eq_true rfl))
     rw [← hW3]
     clear hW3 HV5 e2 f7 c0 c1 c2 c3 c4 c5 c6 c7 c8 c9
     obtain ⟨c0, c1, c2, c3, c4, c5, c6, c7, c8, c9⟩ := Rq.at (Rq.mk (It.mk p.1 p.2.1 p.2.2 r.a.i r.a.u r.a.s r.a.y) (r.l - n) r.s r.z) (HV6.out.cs 0 rfl)
     have k3 := C3.out
     go_wp2_with fail
     refine (Ref15.set (Rq.mk (It.mk p.1 p.2.1 p.2.2 r.a.i r.a.u r.a.s r.a.y) (r.l - n) r.s r.z) HR5.out _).mono ?_
     rw [HX.out]
     rintro e w3 ⟨rfl, hb⟩
     have HV7 := hid (HV6.out.below hb)
     clear hb HV6 c0 c1 c2 c3 c4 c5 c6 c7 c8 c9 k3
     go_wp2_with (first | ((with_reducible refine pvs HV7.out 0 61 [.int .u64 x.a.t, .int .u32 x.a.r, .int .u32 x.a.v, .int .i64 x.a.i, .int .u64 x.a.u, .int .u32 x.a.s, .int .u32 x.a.y, .int .u64 x.l, .int .u64 x.s, .bool x.z] infoRefReq 2 53 (w.heap.size) ((Rq.mk (It.mk p.1 p.2.1 p.2.2 r.a.i r.a.u r.a.s r.a.y) (r.l - n) r.s r.z).cells) 0 ?vs24010); (intro W2 hW2); (have HV8 := hid hW2); (clear hW2 HV7); (obtain ⟨c0, c1, c2, c3, c4, c5, c6, c7, c8, c9⟩ := Rq.at x (HV8.out.cs 0 rfl))) | ((with_reducible refine pvs HV8.out 1 61 [.int .u64 x.a.t, .int .u32 x.a.r, .int .u32 x.a.v, .int .i64 x.a.i, .int .u64 x.a.u, .int .u32 x.a.s, .int .u32 x.a.y, .int .u64 x.l, .int .u64 x.s, .bool x.z] infoRefReq 4 55 (w.heap.size + 1) (Rq.no.cells) 0 ?vs24011); (intro W2 hW2); (have HV9 := hid hW2); (clear hW2 HV8); (clear c0 c1 c2 c3 c4 c5 c6 c7 c8 c9)) | fail)
     obtain ⟨z0, z1, z2, z3, z4, z5, z6, z7, z8, z9⟩ := Rq.at x (HV9.out.cs 1 rfl)
     go_wp2_with fail
     refine bodyPost_ret (v := .tuple #[Rq.val x, .bool false, .bool b]) (by simp [results, Tryz.results38, go_sem, z0, z1, z2, z3, z4, z5, z6, z7, z8, z9]) rfl ⟨rfl, HV9.out.bel⟩
theorem Ref15.served (r : Rq) (hr : r.In) (A : Option Addr) (n c : Nat) (zs : List Int) (w : World) (hz : RdU .u64 w A n zs) (hi : InU zs) (hn : n ≤ 1000000) :
  Calls Tryz.prog 40 #[r.val, .slice A n c] w (Ans (.tuple #[Rq.val (r.served zs).1, .int .i64 (r.served zs).2.1, .bool (r.served zs).2.2]) w) := by
 have HR := hid hr
 have HZ := hid hz
 have HL := hid hz.1
 have HI := hid hi
 have HN := hid hn
 obtain ⟨⟨sx, sm, sb⟩, hsv⟩ : ∃ s, r.served zs = s := ⟨_, rfl⟩
 have HSV := hid hsv
 rw [hsv]
 clear hr hz hi hsv
 unfold Rq.val
 have HV0 : Hid (VS w [(w.heap.size, r.cells), (w.heap.size + 1, Rq.no.cells)] ((w.alloc (.cells #[.int .u64 r.a.t, .int .u32 r.a.r, .int .u32 r.a.v, .int .i64 r.a.i, .int .u64 r.a.u, .int .u32 r.a.s, .int .u32 r.a.y, .int .u64 r.l, .int .u64 r.s, .bool r.z] 61)).alloc (.cells #[.int .u64 0, .int .u32 0, .int .u32 0, .int .i64 0, .int .u64 0, .int .u32 0, .int .u32 0, .int .u64 0, .int .u64 0, .bool false] 61))) := hid (by have h := (((VS.nil w).new 61 r.cells).new 61 Rq.no.cells); (try simp only [World.size_alloc] at h); exact h)
 go_enter Tryz.func40, Tryz.ntmps40
 go_wp2_with fail
 generalize ((w.alloc (.cells #[.int .u64 r.a.t, .int .u32 r.a.r, .int .u32 r.a.v, .int .i64 r.a.i, .int .u64 r.a.u, .int .u32 r.a.s, .int .u32 r.a.y, .int .u64 r.l, .int .u64 r.s, .bool r.z] 61)).alloc (.cells #[.int .u64 0, .int .u32 0, .int .u32 0, .int .i64 0, .int .u64 0, .int .u32 0, .int .u32 0, .int .u64 0, .int .u64 0, .bool false] 61)) = W0 at HV0 ⊢
 go_loopg [7, 15] n (fun g t i wr => ∃ (k : Nat) (x : Rq) (m : Int), t = .int .i64 m ∧ i = .int .i64 k ∧ g = n - k ∧ k ≤ n ∧ x.In ∧ r.served (zs.take k) = (x, m, true) ∧ (0 ≤ m ∧ m ≤ k) ∧ VS w [(w.heap.size, x.cells), (w.heap.size + 1, Rq.no.cells)] wr)
 case atStart => exact ⟨0, r, 0, rfl, rfl, rfl, Nat.zero_le _, HR.out, rfl, ⟨by decide, by decide⟩, HV0.out⟩
 case round =>
  obtain ⟨k, x, m, rfl, rfl, hg, hk, hx, hs, hm, hv⟩ := hrel
  have HG := hid hg
  have HK := hid hk
  have HX := hid hx
  have HS := hid hs
  have HM := hid hm
  have HW0 := hid hv
  clear hg hk hx hs hm hv HV0
  by_cases hlt2 : k < n
  ·have HLT := hid hlt2
   obtain ⟨b2, off2, e2, hbl, hc⟩ := (HZ.out.below HW0.out.bel).2 k hlt2
   subst e2
   have hcell := hc k hlt2
   have HS2 := hid (served_take (r := r) (zs := zs) (k := k) (by have := HL.out; omega))
   have HQ := hid (HI.out.get (k := k) (by have := HL.out; omega))
   generalize zs.getD k 0 = z at *
   rw [HS.out] at HS2
   clear hc hbl
   obtain ⟨c0, c1, c2, c3, c4, c5, c6, c7, c8, c9⟩ := Rq.at x (HW0.out.cs 0 rfl)
   go_wp2_with fail
   have HMN : Hid (IsT (min z x.l)) := hid (by have := HQ.out; have := HX.out.2.1; unfold IsT at *; omega)
   have HXI := hid (serve_in HX.out (min z x.l) HMN.out.1)
   refine (Ref15.serve x HX.out (min z x.l) HMN.out _).mono ?_
   obtain ⟨y, b, ok, hy⟩ : ∃ y b ok, x.serve (min z x.l) = (y, b, ok) := ⟨_, _, _, rfl⟩
   rw [hy] at HXI ⊢
   have HY := hid hy
   clear hy
   rintro e w1 ⟨rfl, hb⟩
   have HW1 : Hid (VS w [(w.heap.size, x.cells), (w.heap.size + 1, Rq.no.cells)] w1) := hid (HW0.out.below hb)
   clear hb HW0 hcell c0 c1 c2 c3 c4 c5 c6 c7 c8 c9
   dsimp only at HXI ⊢
   have HW2 : Hid (VS w _ (w1.alloc (.cells #[.int .u64 0, .int .u32 0, .int .u32 0, .int .i64 0, .int .u64 0, .int .u32 0, .int .u32 0, .int .u64 0, .int .u64 0, .bool false] 61))) := hid (HW1.out.new 61 Rq.no.cells)
   clear HW1
   cases ok with
   | false =>
    have HE : Hid (r.served zs = (Rq.no, 0, false)) := hid (served_stop (k := k + 1) (by rw [HS2.out]; unfold srvStep; simp only [HY.out]; rfl))
    obtain ⟨rfl, rfl, rfl⟩ := served_eq (HE.out.symm.trans HSV.out)
    go_wp2_with (first | ((with_reducible refine pvs HW2.out 2 61 [.int .u64 y.a.t, .int .u32 y.a.r, .int .u32 y.a.v, .int .i64 y.a.i, .int .u64 y.a.u, .int .u32 y.a.s, .int .u32 y.a.y, .int .u64 y.l, .int .u64 y.s, .bool y.z] infoRefReq 10 26 (w1.heap.size) (Rq.no.cells) 0 ?vs24014); (intro W2 hW2); (have HW3 := hid hW2); (clear hW2 HW2); (obtain ⟨c0, c1, c2, c3, c4, c5, c6, c7, c8, c9⟩ := Rq.at y (HW3.out.cs 2 rfl))) | ((with_reducible refine pvs HW3.out 1 61 [.int .u64 0, .int .u32 0, .int .u32 0, .int .i64 0, .int .u64 0, .int .u32 0, .int .u32 0, .int .u64 0, .int .u64 0, .bool false] infoRefReq 4 31 (w.heap.size + 1) (Rq.no.cells) 0 ?vs24013); (intro W2 hW2); (have HW4 := hid hW2); (clear hW2 HW3)) | fail)
    clear c0 c1 c2 c3 c4 c5 c6 c7 c8 c9
    obtain ⟨z0, z1, z2, z3, z4, z5, z6, z7, z8, z9⟩ := Rq.at Rq.no (HW4.out.cs 1 rfl)
    go_wp2_with fail
    refine bodyPost_ret (v := .tuple #[Rq.val Rq.no, .int .i64 0, .bool false]) (by simp [results, Tryz.results40, go_sem, z0, z1, z2, z3, z4, z5, z6, z7, z8, z9]) rfl ⟨rfl, HW4.out.bel⟩
   | true =>
    have HS3 : Hid (r.served (zs.take (k + 1)) = (y, m + (if b = true then 1 else 0), true)) := hid (by rw [HS2.out]; unfold srvStep; simp only [HY.out]; rfl)
    have e1 : wrap64 (m + 1) = m + 1 := by have := HM.out; have := HLT.out; have := HN.out; unfold wrap64; omega
    have e2 : IntKind.i64.wrap (m + 1) = m + 1 := by have := HM.out; have := HLT.out; have := HN.out; rw [IntKind.wrap_i64]; omega
    cases b with
    | false =>
     go_wp2_with (first | ((with_reducible refine pvs HW2.out 2 61 [.int .u64 y.a.t, .int .u32 y.a.r, .int .u32 y.a.v, .int .i64 y.a.i, .int .u64 y.a.u, .int .u32 y.a.s, .int .u32 y.a.y, .int .u64 y.l, .int .u64 y.s, .bool y.z] infoRefReq 10 26 (w1.heap.size) (Rq.no.cells) 0 ?vs24016); (intro W2 hW2); (have HW3 := hid hW2); (clear hW2 HW2); (obtain ⟨c0, c1, c2, c3, c4, c5, c6, c7, c8, c9⟩ := Rq.at y (HW3.out.cs 2 rfl))) | ((with_reducible refine pvs HW3.out 0 61 [.int .u64 y.a.t, .int .u32 y.a.r, .int .u32 y.a.v, .int .i64 y.a.i, .int .u64 y.a.u, .int .u32 y.a.s, .int .u32 y.a.y, .int .u64 y.l, .int .u64 y.s, .bool y.z] infoRefReq 2 32 (w.heap.size) (x.cells) 0 ?vs24017); (intro W2 hW2); (have HW4 := hid hW2); (clear hW2 HW3); (clear c0 c1 c2 c3 c4 c5 c6 c7 c8 c9)) | fail)
     go_roundg (n - (k + 1))
     case measure => have := HG.out; have := HLT.out; omega
     case rel => exact ⟨k + 1, y, m, rfl, by go_num, rfl, by have := HLT.out; omega, HXI.out, by rw [HS3.out]; simp, ⟨HM.out.1, by have := HM.out.2; omega⟩, VS.less [_] HW4.out⟩
    | true =>
     go_wp2_with (first | ((with_reducible refine pvs HW2.out 2 61 [.int .u64 y.a.t, .int .u32 y.a.r, .int .u32 y.a.v, .int .i64 y.a.i, .int .u64 y.a.u, .int .u32 y.a.s, .int .u32 y.a.y, .int .u64 y.l, .int .u64 y.s, .bool y.z] infoRefReq 10 26 (w1.heap.size) (Rq.no.cells) 0 ?vs24018); (intro W2 hW2); (have HW3 := hid hW2); (clear hW2 HW2); (obtain ⟨c0, c1, c2, c3, c4, c5, c6, c7, c8, c9⟩ := Rq.at y (HW3.out.cs 2 rfl))) | ((with_reducible refine pvs HW3.out 0 61 [.int .u64 y.a.t, .int .u32 y.a.r, .int .u32 y.a.v, .int .i64 y.a.i, .int .u64 y.a.u, .int .u32 y.a.s, .int .u32 y.a.y, .int .u64 y.l, .int .u64 y.s, .bool y.z] infoRefReq 2 32 (w.heap.size) (x.cells) 0 ?vs24019); (intro W2 hW2); (have HW4 := hid hW2); (clear hW2 HW3); (clear c0 c1 c2 c3 c4 c5 c6 c7 c8 c9)) | fail)
     go_roundg (n - (k + 1))
     case measure => have := HG.out; have := HLT.out; omega
     case rel => exact ⟨k + 1, y, m + 1, rfl, by go_num, rfl, by have := HLT.out; omega, HXI.out, by rw [HS3.out]; simp, ⟨by have := HM.out.1; omega, by have := HM.out.2; omega⟩, VS.less [_] HW4.out⟩
  ·obtain rfl : k = n := by have := HK.out; omega
   have e : zs.take k = zs := List.take_of_length_le (by have := HL.out; omega)
   rw [e] at HS
   obtain ⟨rfl, rfl, rfl⟩ := served_eq (HS.out.symm.trans HSV.out)
   clear e
   have hki : ¬ (k : Int) < k := by omega
   obtain ⟨c0, c1, c2, c3, c4, c5, c6, c7, c8, c9⟩ := Rq.at x (HW0.out.cs 0 rfl)
   go_wp2_with (first | ((with_reducible refine pvs HW0.out 1 61 [.int .u64 x.a.t, .int .u32 x.a.r, .int .u32 x.a.v, .int .i64 x.a.i, .int .u64 x.a.u, .int .u32 x.a.s, .int .u32 x.a.y, .int .u64 x.l, .int .u64 x.s, .bool x.z] infoRefReq 4 37 (w.heap.size + 1) (Rq.no.cells) 0 ?vs24020); (intro W2 hW2); (have HW1 := hid hW2); (clear hW2 HW0); (clear c0 c1 c2 c3 c4 c5 c6 c7 c8 c9)) | fail)
   obtain ⟨z0, z1, z2, z3, z4, z5, z6, z7, z8, z9⟩ := Rq.at x (HW1.out.cs 1 rfl)
   go_wp2_with fail
   refine bodyPost_ret (v := .tuple #[Rq.val x, .int .i64 m, .bool true]) (by simp [results, Tryz.results40, go_sem, z0, z1, z2, z3, z4, z5, z6, z7, z8, z9]) rfl ⟨rfl, HW1.out.bel⟩
theorem Law15.of (r : Rq) (w : World) : Calls Tryz.prog 32 #[r.val] w (Ans r.val w) := by
 unfold Rq.val
 have HV0 : Hid (VS w [(w.heap.size, r.cells), (w.heap.size + 1, Rq.no.cells)] ((w.alloc (.cells #[.int .u64 r.a.t, .int .u32 r.a.r, .int .u32 r.a.v, .int .i64 r.a.i, .int .u64 r.a.u, .int .u32 r.a.s, .int .u32 r.a.y, .int .u64 r.l, .int .u64 r.s, .bool r.z] 53)).alloc (.cells #[.int .u64 0, .int .u32 0, .int .u32 0, .int .i64 0, .int .u64 0, .int .u32 0, .int .u32 0, .int .u64 0, .int .u64 0, .bool false] 61))) := hid (by have h := (((VS.nil w).new 53 r.cells).new 61 Rq.no.cells); (try simp only [World.size_alloc] at h); exact h)
 go_enter Tryz.func32, Tryz.ntmps32
 go_wp2_with fail
 generalize ((w.alloc (.cells #[.int .u64 r.a.t, .int .u32 r.a.r, .int .u32 r.a.v, .int .i64 r.a.i, .int .u64 r.a.u, .int .u32 r.a.s, .int .u32 r.a.y, .int .u64 r.l, .int .u64 r.s, .bool r.z] 53)).alloc (.cells #[.int .u64 0, .int .u32 0, .int .u32 0, .int .i64 0, .int .u64 0, .int .u32 0, .int .u32 0, .int .u64 0, .int .u64 0, .bool false] 61)) = W0 at HV0 ⊢
 refine wp_region_grow (S := VS w [(w.heap.size, r.cells), (w.heap.size + 1, Rq.no.cells)]) 10 (by kernel_rfl) (HV0.out.below (Below.refl _ _).drew) ?_
 refine tF 0 (VS.stays w _) (fun _ h => h) ?_
 try simp only [tdy]
 refine tG 1 (VS.stays w _) (fun _ h => h) (fun _ hSw => Rq.at r (hSw.cs 0 rfl)) ?_
 try simp only [tdy]
 refine tF 3 (VS.stays w _) (fun _ h => h) ?_
 try simp only [tdy]
 refine tG 4 (VS.stays w _) (fun _ h => h) (fun _ hSw => Rq.at r (hSw.cs 0 rfl)) ?_
 try simp only [tdy]
 refine tF 5 (VS.stays w _) (fun _ h => h) ?_
 try simp only [tdy]
 refine tG 6 (VS.stays w _) (fun _ h => h) (fun _ hSw => Rq.at r (hSw.cs 0 rfl)) ?_
 try simp only [tdy]
 refine tF 7 (VS.stays w _) (fun _ h => h) ?_
 try simp only [tdy]
 refine tG 8 (VS.stays w _) (fun _ h => h) (fun _ hSw => Rq.at r (hSw.cs 0 rfl)) ?_
 try simp only [tdy]
 refine tC 2 (v := It.val r.a) (VS.stays w _) (fun _ h => h) (fun wq hSw => Law5.of r.a wq) ?_
 try simp only [tdy]
 refine tF 9 (VS.stays w _) (fun _ h => h) ?_
 try simp only [tdy]
 refine wpAnyE_last rfl rfl (by kernel_rfl) (fun wz hSz => ?_)
 have HV1 := hid hSz
 clear hSz HV0
 go_wp2_with (first | ((with_reducible refine wpList_put_vs HV1.out 1 61 [.int .u64 r.a.t, .int .u32 r.a.r, .int .u32 r.a.v, .int .i64 r.a.i, .int .u64 r.a.u, .int .u32 r.a.s, .int .u32 r.a.y, .int .u64 r.l, .int .u64 r.s, .bool r.z] infoRefReq rfl (.tmp 2) (.tmp 12) rfl (w.heap.size + 1) (Rq.no.cells) ?vs24021a 0 ?vs24021b ?vs24021c ?vs24021d ?vs24021e ?vs24021f ?vs24021g); (case vs24021a => rfl); (case vs24021b => rfl); (case vs24021c => exact of_decide_eq_true rfl); (case vs24021d => rfl); (case vs24021e => rfl); (case vs24021f => rfl); (intro W2 hW2); (have HV2 : Hid (VS w [(w.heap.size, r.cells), (w.heap.size + 1, r.cells)] W2) := hid hW2); (clear hW2 HV1); (obtain ⟨z0, z1, z2, z3, z4, z5, z6, z7, z8, z9⟩ := Rq.at r (HV2.out.cs 1 rfl))) | fail)
 refine bodyPost_ret (v := Rq.val r) (by simp [results, Tryz.results32, go_sem, z0, z1, z2, z3, z4, z5, z6, z7, z8, z9]) rfl ⟨rfl, HV2.out.bel⟩
end


section
open Go.RowKit
set_option maxRecDepth 100000
set_option maxHeartbeats 32000000
theorem add_in {m : Mu} {p : P3} (hm : m.In) (hp : PIn p) : (m.add p).2.In := by
 unfold Mu.add
 split
 ·rename_i h
  unfold Mu.addOk at h
  simp only [Bool.and_eq_true, decide_eq_true_eq] at h
  obtain ⟨⟨⟨h1, h2⟩, h3⟩, h4⟩ := h
  have h5 := pR_isP hp h2
  have hw : 0 ≤ m.w ∧ m.w ≤ 33554432 := by
   unfold Mu.right at h1
   split at h1
   ·simp at h1; omega
   ·simp only [Bool.and_eq_true, decide_eq_true_eq] at h1; omega
  have hn : 0 ≤ m.n := by
   unfold Mu.right at h1
   split at h1
   ·omega
   ·simp only [Bool.and_eq_true, decide_eq_true_eq] at h1; omega
  have hv := hp.2.2
  refine ⟨hm.1, okW_iff.1 h4, ⟨?_, ?_⟩, ?_, ?_⟩ <;> simp only <;> omega
 ·exact Mu.no_in
theorem reb_in {m : Mu} {t : Int} (hm : m.In) (ht : IsT t) : (m.reb t).2.In := by
 unfold Mu.reb
 split
 ·rename_i h
  unfold Mu.rebOk at h
  simp only [Bool.and_eq_true] at h
  exact ⟨ht, okW_iff.1 h.2, hm.2.2.1, hm.2.2.2⟩
 ·exact Mu.no_in
theorem fl_T {m : Mu} : IsT m.fl.2 := by
 unfold Mu.fl
 split
 ·exact adv_T _ _
 ·exact ⟨by decide, by decide⟩
def nowM (m : Mu) : Mu := if m.fl.1 = true then (m.reb m.fl.2).2 else m
theorem nowM_in {m : Mu} (hm : m.In) : (nowM m).In := by
 unfold nowM
 split
 ·exact reb_in hm fl_T
 ·exact hm
def baseI (m : Mu) (a : It) : Int := if m.n = 0 then a.t else m.b
def withM (m : Mu) (l : List It) (a : It) : Bool × Mu :=
 if withinI (baseI m a) (l ++ [a]) = true then ((Mu.add ⟨baseI m a, m.a, m.w, m.n⟩ a.pp).1, nowM (Mu.add ⟨baseI m a, m.a, m.w, m.n⟩ a.pp).2) else (false, Mu.no)
def F2 (w : World) (g : Nat) (m k : Mu) (w' : World) : Prop := (Cs w' g m.cells ∧ Cs w' (g + 1) k.cells) ∧ w.heap.size ≤ g ∧ Below w.heap.size w w'
theorem F2.below {w w1 w2 : World} {g : Nat} {m k : Mu} (h : F2 w g m k w1) (hb : Below w1.heap.size w1 w2) : F2 w g m k w2 := ⟨⟨h.1.1.below hb, h.1.2.below hb⟩, h.2.1, below_on h.2.2 hb⟩
theorem F2.put1 {w w1 : World} {g : Nat} {m k : Mu} (h : F2 w g m k w1) (j : Mu) {W : World} (hW : W = w1.setCells g 0 j.cells) : F2 w g j k W := by
 rw [hW]; exact ⟨⟨Cs.putL j.cells 0 h.1.1 (by simp [Mu.cells]), h.1.2.fars (by omega) _ _⟩, h.2.1, below_sets h.2.1 _ _ h.2.2⟩
theorem F2.put2 {w w1 : World} {g : Nat} {m k : Mu} (h : F2 w g m k w1) (j : Mu) {W : World} (hW : W = w1.setCells (g + 1) 0 j.cells) : F2 w g m j W := by
 rw [hW]; exact ⟨⟨h.1.1.fars (by omega) _ _, Cs.putL j.cells 0 h.1.2 (by simp [Mu.cells])⟩, h.2.1, below_sets (by have := h.2.1; omega) _ _ h.2.2⟩
theorem zero_cells : (Mu.mk 0 0 0 0).cells = [.int .u64 0, .int .i64 0, .int .u64 0, .int .u64 0, .int .i64 0] := by unfold Mu.cells; rw [show hiW 0 = 0 by decide, show loW 0 = 0 by decide]
theorem Queue.fromNow (m : Mu) (hm : m.In) (w : World) : Calls Tryz.prog 118 #[m.val] w (Ans (nowM m).val w) := by
 have HM := hid hm
 have HF0 : Hid (F2 w w.heap.size m ⟨0, 0, 0, 0⟩ ((w.alloc (.cells #[.int .u64 m.b, .int .i64 (hiW m.a), .int .u64 (loW m.a), .int .u64 m.w, .int .i64 m.n] 127)).alloc (.cells #[.int .u64 0, .int .i64 0, .int .u64 0, .int .u64 0, .int .i64 0] 127))) := hid (by
  have h1 := Cs.alloc_new6 w 127 m.cells
  have h2 := Cs.alloc_new6 (w.alloc (.cells #[.int .u64 m.b, .int .i64 (hiW m.a), .int .u64 (loW m.a), .int .u64 m.w, .int .i64 m.n] 127)) 127 [.int .u64 0, .int .i64 0, .int .u64 0, .int .u64 0, .int .i64 0]
  simp only [World.size_alloc] at h2
  exact ⟨⟨h1.alloc _, by rw [zero_cells]; exact h2⟩, Nat.le_refl _, ((Below.refl w.heap.size w).alloc (Nat.le_refl _) _).alloc (by simp) _⟩)
 have HRI := hid (reb_in hm (t := m.fl.2) fl_T)
 clear hm
 unfold Mu.val
 go_enter Tryz.func118, Tryz.ntmps118
 go_wp2_with fail
 generalize ((w.alloc (.cells #[.int .u64 m.b, .int .i64 (hiW m.a), .int .u64 (loW m.a), .int .u64 m.w, .int .i64 m.n] 127)).alloc (.cells #[.int .u64 0, .int .i64 0, .int .u64 0, .int .u64 0, .int .i64 0] 127)) = W0 at HF0 ⊢
 obtain ⟨m0, m1, m2, m3, m4⟩ := Mu.at m HF0.out.1.1
 go_wp2_with fail
 refine (Mean.floor m HM.out _).mono ?_
 rintro e w1 ⟨rfl, hb⟩
 have HF1 := hid (HF0.out.below hb)
 clear hb HF0 m0 m1 m2 m3 m4
 obtain ⟨ok, t, hf⟩ : ∃ ok t, m.fl = (ok, t) := ⟨_, _, rfl⟩
 rw [hf] at HRI ⊢
 have HE : Hid (nowM m = if ok = true then (m.reb t).2 else m) := hid (by unfold nowM; rw [hf])
 clear hf
 dsimp only at HRI ⊢
 obtain ⟨m0, m1, m2, m3, m4⟩ := Mu.at m HF1.out.1.1
 have HCA := hid HF1.out.1.2
 cases ok with
 | false =>
  go_wp2_with (first | ((with_reducible refine pc 127 m.cells infoMean 2 12 (w.heap.size + 1) _ HCA.out ?qa1f); (intro W2 hW2); (have HF2 := hid (HF1.out.put2 m hW2)); (clear hW2 m0 m1 m2 m3 m4); (obtain ⟨z0, z1, z2, z3, z4⟩ := Mu.at m HF2.out.1.2)) | fail)
  refine bodyPost_ret (v := m.val) (by simp [results, Tryz.results118, go_sem, z0, z1, z2, z3, z4, Mu.val]) rfl ⟨by rw [HE.out, if_neg (by decide)], HF2.out.2.2⟩
 | true =>
  obtain ⟨k, hk⟩ : ∃ k, m.reb t = k := ⟨_, rfl⟩
  rw [hk] at HE HRI
  go_wp2_with fail
  refine (Mean.rebase m t HM.out _).mono ?_
  rw [hk]
  rintro e w2 ⟨rfl, hb⟩
  have HF2 := hid (HF1.out.below hb)
  have HCB := hid HF2.out.1.1
  clear hb HF1 m0 m1 m2 m3 m4 hk HCA
  go_wp2_with (first
   | ((with_reducible refine pc 127 k.2.cells infoMean 1 17 w.heap.size _ HCB.out ?qa2f); (intro W2 hW2); (have HF3 := hid (HF2.out.put1 k.2 hW2)); (have HCC := hid HF3.out.1.2); (clear hW2); (obtain ⟨m0, m1, m2, m3, m4⟩ := Mu.at k.2 HF3.out.1.1))
   | ((with_reducible refine pc 127 k.2.cells infoMean 2 19 (w.heap.size + 1) _ HCC.out ?qa3f); (intro W3 hW3); (have HF4 := hid (HF3.out.put2 k.2 hW3)); (clear hW3 m0 m1 m2 m3 m4); (obtain ⟨z0, z1, z2, z3, z4⟩ := Mu.at k.2 HF4.out.1.2))
   | fail)
  refine bodyPost_ret (v := k.2.val) (by simp [results, Tryz.results118, go_sem, z0, z1, z2, z3, z4, Mu.val]) rfl ⟨by rw [HE.out]; simp [Mu.val], HF4.out.2.2⟩
theorem Chg.on {F : List Nat} {a b c : World} (h : Chg F a b) (hb : Below b.heap.size b c) : Chg F a c := h.trans (Chg.below (F := []) hb) (by simp)
def W3v (w : World) (F : List Nat) (m : Mu) (x : It) (k : Mu) (w' : World) : Prop := (Cs w' w.heap.size m.cells ∧ Cs w' (w.heap.size + 1) x.cells ∧ Cs w' (w.heap.size + 2) k.cells) ∧ Chg F w w'
theorem W3v.below {w w1 w2 : World} {F : List Nat} {m k : Mu} {x : It} (h : W3v w F m x k w1) (hb : Below w1.heap.size w1 w2) : W3v w F m x k w2 := ⟨⟨h.1.1.below hb, h.1.2.1.below hb, h.1.2.2.below hb⟩, h.2.on hb⟩
theorem W3v.put1 {w w1 : World} {F : List Nat} {m k : Mu} {x : It} (h : W3v w F m x k w1) (j : Mu) {W : World} (hW : W = w1.setCells w.heap.size 0 j.cells) : W3v w F j x k W := by
 rw [hW]; exact ⟨⟨Cs.putL j.cells 0 h.1.1 (by simp [Mu.cells]), h.1.2.1.fars (by omega) _ _, h.1.2.2.fars (by omega) _ _⟩, Chg.sets _ _ h.2 (Or.inr (Nat.le_refl _))⟩
theorem W3v.put3 {w w1 : World} {F : List Nat} {m k : Mu} {x : It} (h : W3v w F m x k w1) (j : Mu) {W : World} (hW : W = w1.setCells (w.heap.size + 2) 0 j.cells) : W3v w F m x j W := by
 rw [hW]; exact ⟨⟨h.1.1.fars (by omega) _ _, h.1.2.1.fars (by omega) _ _, Cs.putL j.cells 0 h.1.2.2 (by simp [Mu.cells])⟩, Chg.sets _ _ h.2 (Or.inr (by omega))⟩
theorem W3v.chg {w w1 w2 : World} {F : List Nat} {m k : Mu} {x : It} (h : W3v w F m x k w1) (hc : Chg F w1 w2) (hF : ∀ q ∈ F, q < w.heap.size) : W3v w F m x k w2 :=
 ⟨⟨h.1.1.chg hc (fun hq => by have := hF _ hq; omega), h.1.2.1.chg hc (fun hq => by have := hF _ hq; omega), h.1.2.2.chg hc (fun hq => by have := hF _ hq; omega)⟩, h.2.trans hc (fun g hg => Or.inl hg)⟩
theorem W3v.base {w w1 : World} {F : List Nat} {m k : Mu} {x : It} (h : W3v w F m x k w1) (b : Int) : W3v w F ⟨b, m.a, m.w, m.n⟩ x k (w1.setCell ⟨w.heap.size, 0, none⟩ (.int .u64 b)) :=
 ⟨⟨h.1.1.putAt 0 (by simp [Mu.cells]) _, h.1.2.1.far (by omega) _ _, h.1.2.2.far (by omega) _ _⟩, h.2.set (Or.inr (Nat.le_refl _)) _ _⟩
theorem withM_in {m : Mu} {l : List It} {a : It} (hm : m.In) (ha : a.In) : (withM m l a).2.In := by
 unfold withM
 split
 ·refine nowM_in (add_in ⟨?_, hm.2.1, hm.2.2.1, hm.2.2.2⟩ ⟨ha.1, ha.2.1, ha.2.2.1⟩)
  show 0 ≤ baseI m a ∧ _
  unfold baseI
  split
  ·exact ha.1
  ·exact hm.1
 ·exact Mu.no_in
def AnsC (F : List Nat) (v : Value) (w : World) (e : Ending) (w' : World) : Prop := e = .returned v ∧ Chg F w w'
section
variable {ops : Array Oper} {Q : Exit → Act → World → Prop} {md : Region.Mode} {S0 : World → Prop} {S : World → Prop}
theorem wpAnyE_append_it {t i : Nat} {oi : Oper} {fuel : Nat} {listed : Array Bool} {a : Act} (hi : ops[i]? = some oi) (hr : Region.ready md ops listed = [i]) (hin : i < t) (hw : Region.wanted oi (yielded ops a.tmps) = true) (hgd : oi.guard = none) (s x : Operand)
  (ho : oi.op = .call { callee := .builtin .append, args := #[s, x], argTypes := #[42, 42] })
  (base : Nat) (A : Option Addr) (n c : Nat) (l : List It) (b : Nat) (d : It) (hn : n ≤ 1000000) (hown : ∀ w, S w → OwnI w base A n c l ∧ Th w b d ∧ base ≤ w.heap.size)
  (S' : Option Addr → Nat → World → Prop) (hS : ∀ w w' A' c', S w → OwnI w' base A' (n + 1) c' (l ++ [d]) → Chg (rowOf A) w w' → (∀ k ∈ rowOf A', k ∈ rowOf A ∨ w.heap.size ≤ k) → S' A' c' w')
  (hsub : ∀ A' c' w, S' A' c' w → S0 w) (hst : ∀ A' c', Stays (S' A' c')) (hs : a.eval s = .slice A n c) (hx : a.eval x = .slice (some ⟨b, 0, none⟩) 1 1)
  (h : ∀ A' c', wpAnyE Tryz.prog md ops Q S0 t fuel (S' A' c') (listed.setIfInBounds i true) (a.put oi.dst (.slice A' (n + 1) c'))) : wpAnyE Tryz.prog md ops Q S0 t (fuel + 1) S listed a :=
 wpAnyE_one hi hr hin hw (fun w hSw K hK => by
  obtain ⟨h1, h2, h3⟩ := hown w hSw
  have := step_append_it (ops := ops) (a := a) (K := K) (Q := Q) (E := False) w hgd s x ho base A n c l hs h1 b d hx h2 hn h3 (fun A' c' w' g1 g2 g3 => hK.out _ _ (S' A' c') (hsub A' c') (hst A' c') (hS w w' A' c' hSw g1 g2 g3) (h A' c'))
  rwa [if_pos hw] at this)
end
theorem Queue.with0 (m : Mu) (hm : m.In) (x : It) (hx : x.In) (A : Option Addr) (n c : Nat) (l : List It) (w : World) (base : Nat) (hb0 : base ≤ w.heap.size) (ho : OwnI w base A n c l) (hn : n ≤ 900000) (hz : m.n = 0) : Calls Tryz.prog 68 #[m.val, .slice A n c, x.val] w (AnsC (rowOf A) (.tuple #[Mu.val (withM m l x).2, .bool (withM m l x).1]) w) := by
 have hn : n ≤ 1000000 := by omega
 have HB0 := hid hb0
 have HXP : Hid (PIn x.pp) := hid ⟨hx.1, hx.2.1, hx.2.2.1⟩
 have HROW : Hid (∀ q ∈ rowOf A, q < w.heap.size) := hid (fun q hq => (ho.rowGe q hq).2)
 have hbelow := (((Below.refl w.heap.size w).alloc (Nat.le_refl _) (.cells #[.int .u64 m.b, .int .i64 (hiW m.a), .int .u64 (loW m.a), .int .u64 m.w, .int .i64 m.n] 127)).alloc (by simp) (.cells #[.int .u64 x.t, .int .u32 x.r, .int .u32 x.v, .int .i64 x.i, .int .u64 x.u, .int .u32 x.s, .int .u32 x.y] 29)).alloc (by simp; omega) (.cells #[.int .u64 0, .int .i64 0, .int .u64 0, .int .u64 0, .int .i64 0] 127)
 have HV0 : Hid (W3v w (rowOf A) m x ⟨0, 0, 0, 0⟩ (((w.alloc (.cells #[.int .u64 m.b, .int .i64 (hiW m.a), .int .u64 (loW m.a), .int .u64 m.w, .int .i64 m.n] 127)).alloc (.cells #[.int .u64 x.t, .int .u32 x.r, .int .u32 x.v, .int .i64 x.i, .int .u64 x.u, .int .u32 x.s, .int .u32 x.y] 29)).alloc (.cells #[.int .u64 0, .int .i64 0, .int .u64 0, .int .u64 0, .int .i64 0] 127))) := hid (by
  have h1 := Cs.alloc_new6 w 127 m.cells
  have h2 := Cs.new7 (w.alloc (.cells #[.int .u64 m.b, .int .i64 (hiW m.a), .int .u64 (loW m.a), .int .u64 m.w, .int .i64 m.n] 127)) 29 x
  have h3 := Cs.alloc_new6 ((w.alloc (.cells #[.int .u64 m.b, .int .i64 (hiW m.a), .int .u64 (loW m.a), .int .u64 m.w, .int .i64 m.n] 127)).alloc (.cells #[.int .u64 x.t, .int .u32 x.r, .int .u32 x.v, .int .i64 x.i, .int .u64 x.u, .int .u32 x.s, .int .u32 x.y] 29)) 127 [.int .u64 0, .int .i64 0, .int .u64 0, .int .u64 0, .int .i64 0]
  simp only [World.size_alloc] at h2 h3
  exact ⟨⟨(h1.alloc _).alloc _, h2.alloc _, by rw [zero_cells]; exact h3⟩, Chg.below hbelow⟩)
 have HO0 := hid (ho.below hbelow)
 have HX := hid hx
 obtain ⟨M, hM⟩ : ∃ M : Mu, M = ⟨x.t, m.a, m.w, m.n⟩ := ⟨_, rfl⟩
 have HM : Hid M.In := hid (by rw [hM]; exact ⟨hx.1, hm.2.1, hm.2.2.1, hm.2.2.2⟩)
 have HE : Hid (withM m l x = if withinI M.b (l ++ [x]) = true then ((M.add x.pp).1, nowM (M.add x.pp).2) else (false, Mu.no)) := hid (by unfold withM baseI; rw [hM]; simp only [if_pos hz])
 have HME := hid hM
 have c0 : (m.n == 0) = true := by rw [hz]; rfl
 clear hm hx ho hbelow hz hM
 unfold Mu.val It.val
 go_enter Tryz.func68, Tryz.ntmps68
 go_upto_region 1 with fail
 generalize (((w.alloc (.cells #[.int .u64 m.b, .int .i64 (hiW m.a), .int .u64 (loW m.a), .int .u64 m.w, .int .i64 m.n] 127)).alloc (.cells #[.int .u64 x.t, .int .u32 x.r, .int .u32 x.v, .int .i64 x.i, .int .u64 x.u, .int .u32 x.s, .int .u32 x.y] 29)).alloc (.cells #[.int .u64 0, .int .i64 0, .int .u64 0, .int .u64 0, .int .i64 0] 127)) = W at HV0 HO0 ⊢
 obtain ⟨m0, m1, m2, m3, m4⟩ := Mu.at m HV0.out.1.1
 obtain ⟨q0, q1, q2, q3, q4, q5, q6⟩ := It.at x HV0.out.1.2.1
 have f0 := HV0.out.1.1.fr0
 go_upto_region 3 with fail
 clear m0 m1 m2 m3 m4 q0 q1 q2 q3 q4 q5 q6 f0
 have HV : Hid (W3v w (rowOf A) M x ⟨0, 0, 0, 0⟩ (W.setCell ⟨w.heap.size, 0, none⟩ (.int .u64 x.t))) := hid (by rw [HME.out]; exact HV0.out.base x.t)
 have HO := hid (HO0.out.chg2 (F := [w.heap.size]) (Chg.set (g := w.heap.size) (Chg.refl [w.heap.size] W) (Or.inl (by simp)) 0 (.int .u64 x.t)) (fun q hq h => by have := HROW.out q hq; simp at h; omega))
 clear HV0 HO0
 generalize W.setCell ⟨w.heap.size, 0, none⟩ (.int .u64 x.t) = W at HV HO ⊢
 obtain ⟨m0, m1, m2, m3, m4⟩ := Mu.at M HV.out.1.1
 obtain ⟨q0, q1, q2, q3, q4, q5, q6⟩ := It.at x HV.out.1.2.1
 clear m0 m1 m2 m3 m4 q0 q1 q2 q3 q4 q5 q6
 have HQ0 := hid (And.intro HV.out HO.out)
 go_wp2_with fail
 have hsT : Stays (fun wx => W3v w (rowOf A) M x ⟨0, 0, 0, 0⟩ wx) := fun _ _ h hb => h.below hb
 have hsU : Stays (fun wx => W3v w (rowOf A) M x ⟨0, 0, 0, 0⟩ wx ∧ OwnI wx base A n c l) := fun _ _ h hb => ⟨h.1.below hb, h.2.below hb⟩
 refine wp_region_any (by kernel_rfl) (wpAny_of_E (S0 := (fun wx => W3v w (rowOf A) M x ⟨0, 0, 0, 0⟩ wx)) (n := 8) _ (fun wx => W3v w (rowOf A) M x ⟨0, 0, 0, 0⟩ wx ∧ OwnI wx base A n c l) _ _ _ (hsU _ _ HQ0.out (Below.refl _ _).drew) ?_)
 refine wpAnyE_take (i := 0) (v := ?_) hsU (fun _ h => h.1) rfl (by kernel_rfl) (by kernel_rfl) (by kernel_rfl) (by kernel_rfl) (fun _ _ _ h => h) (SteadyB.of_yields (Or.inl ⟨by rfl, ?_⟩)) ?_
 rotate_left
 ·intro wq hSw
  go_simp; try with_reducible rfl
 try simp only [tdy]
 refine wpAnyE_take (i := 1) (v := ?_) hsU (fun _ h => h.1) rfl (by kernel_rfl) (by kernel_rfl) (by kernel_rfl) (by kernel_rfl) (fun _ _ _ h => h) (SteadyB.of_yields (Or.inl ⟨by rfl, ?_⟩)) ?_
 rotate_left
 ·intro wq hSw
  obtain ⟨m0, m1, m2, m3, m4⟩ := Mu.at M hSw.1.1
  obtain ⟨q0, q1, q2, q3, q4, q5, q6⟩ := It.at x hSw.1.2.1
  go_simp; try with_reducible rfl
 try simp only [tdy]
 refine wpAnyE_take (i := 2) (v := ?_) hsU (fun _ h => h.1) rfl (by kernel_rfl) (by kernel_rfl) (by kernel_rfl) (by kernel_rfl) (fun _ _ _ h => h) (SteadyB.of_yields (Or.inl ⟨by rfl, ?_⟩)) ?_
 rotate_left
 ·intro wq hSw
  go_simp; try with_reducible rfl
 try simp only [tdy]
 refine wpAnyE_take (i := 3) (v := ?_) hsU (fun _ h => h.1) rfl (by kernel_rfl) (by kernel_rfl) (by kernel_rfl) (by kernel_rfl) (fun _ _ _ h => h) (SteadyB.of_yields (Or.inl ⟨by rfl, ?_⟩)) ?_
 rotate_left
 ·intro wq hSw
  obtain ⟨m0, m1, m2, m3, m4⟩ := Mu.at M hSw.1.1
  obtain ⟨q0, q1, q2, q3, q4, q5, q6⟩ := It.at x hSw.1.2.1
  go_simp; try with_reducible rfl
 try simp only [tdy]
 refine wpAnyE_slice1 (i := 4) (fun wx g => Cs wx g x.cells) rfl (by kernel_rfl) (by decide) (by rfl) hsU (fun _ h => h.1) (fun g => fun _ _ h hb => h.below hb) (fun wq hSw => ?_) (fun gs => ?_)
 ·exact ⟨_, by go_simp; (try with_reducible rfl), (Below.refl _ _).alloc (Nat.le_refl _) _, Cs.new7 _ _ x⟩
 try simp only [tdy]
 refine wpAnyE_append_it (i := 5) rfl (by kernel_rfl) (by decide) (by rfl) rfl (.tmp 18) (.tmp 20) rfl base A n c l gs x hn (fun wq hSw => ⟨hSw.1.2, It.at x hSw.2, Nat.le_trans HB0.out hSw.1.1.2.size⟩) (fun A4 c4 wx => W3v w (rowOf A) M x ⟨0, 0, 0, 0⟩ wx ∧ RdI wx A4 (n + 1) (l ++ [x])) (fun _ _ _ _ hSw g1 g2 _ => ⟨hSw.1.1.chg g2 HROW.out, g1.rdi⟩) (fun _ _ _ h => h.1) (fun _ _ => fun _ _ h hb => ⟨h.1.below hb, h.2.below hb⟩) rfl rfl (fun A4 c4 => ?_)
 try simp only [tdy]
 refine wpAnyE_call (i := 6) (fun _ : Unit => Value.bool (withinI M.b (l ++ [x]))) (fun (_ : Unit) (_ : World) => True) rfl (by kernel_rfl) (by decide) (by rfl) (fun _ _ h hb => ⟨h.1.below hb, h.2.below hb⟩) (fun _ h => h.1) (fun yq => stays_tt yq) (fun wq hSw => ?_) (fun yq => ?_)
 ·exact RunI.of_calls (Span.within M.b A4 (n + 1) c4 (l ++ [x]) wq hSw.2 (by omega)) (by go_simp) (fun e w' h => ⟨(), h.1, trivial, h.2⟩)
 obtain ⟨⟩ := yq
 try simp only [tdy]
 refine tF 7 (fun _ _ h hb => ⟨⟨h.1.1.below hb, h.1.2.below hb⟩, trivial⟩) (fun _ h => h.1.1) ?_
 try simp only [tdy]
 refine wpAnyE_done (by kernel_rfl) (fun wz hSz => ?_) _
 replace hSz := hSz.1
 have HV5 := hid hSz.1
 clear hSz HQ0 HV HO
 obtain ⟨wi, hwi⟩ : ∃ wi, withinI M.b (l ++ [x]) = wi := ⟨_, rfl⟩
 rw [hwi] at HE ⊢
 clear hwi
 obtain ⟨m0, m1, m2, m3, m4⟩ := Mu.at M HV5.out.1.1
 obtain ⟨q0, q1, q2, q3, q4, q5, q6⟩ := It.at x HV5.out.1.2.1
 cases wi with
 | false =>
  have HCA := hid HV5.out.1.2.2
  go_wp2_with (first | ((with_reducible refine pc 127 [.int .u64 0, .int .i64 0, .int .u64 0, .int .u64 0, .int .i64 0] infoMean 6 24 (w.heap.size + 2) _ HCA.out ?qa4f); (intro W2 hW2); (rw [← zero_cells] at hW2); (have HV6 := hid (HV5.out.put3 ⟨0, 0, 0, 0⟩ hW2)); (clear hW2 m0 m1 m2 m3 m4 q0 q1 q2 q3 q4 q5 q6); (obtain ⟨z0, z1, z2, z3, z4⟩ := Mu.at _ HV6.out.1.2.2)) | fail)
  refine bodyPost_ret (v := .tuple #[Mu.val ⟨0, 0, 0, 0⟩, .bool false]) (by simp [results, Tryz.results68, go_sem, z0, z1, z2, z3, z4, Mu.val]) rfl ⟨by rw [HE.out]; rfl, HV6.out.2⟩
 | true =>
  obtain ⟨ok, k, hk⟩ : ∃ ok k, M.add x.pp = (ok, k) := ⟨_, _, rfl⟩
  have HKI : Hid k.In := hid (by have := add_in HM.out HXP.out; rwa [hk] at this)
  rw [hk] at HE
  go_wp2_with fail
  refine (Mean.add M x.pp HM.out HXP.out _).mono ?_
  rw [hk]
  rintro e w6 ⟨rfl, hb⟩
  have HV6 := hid (HV5.out.below hb)
  have HCB := hid HV6.out.1.1
  clear hb hk HV5 m0 m1 m2 m3 m4 q0 q1 q2 q3 q4 q5 q6
  go_wp2_with (first | ((with_reducible refine pc 127 k.cells infoMean 3 30 w.heap.size _ HCB.out ?qa5f); (intro W2 hW2); (have HV7 := hid (HV6.out.put1 k hW2)); (clear hW2); (obtain ⟨m0, m1, m2, m3, m4⟩ := Mu.at k HV7.out.1.1)) | fail)
  clear m0 m1 m2 m3 m4
  refine (Queue.fromNow k HKI.out _).mono ?_
  rintro e w8 ⟨rfl, hb⟩
  have HV8 := hid (HV7.out.below hb)
  have HCC := hid HV8.out.1.2.2
  clear hb HV6 HV7
  obtain ⟨j, hj⟩ : ∃ j, nowM k = j := ⟨_, rfl⟩
  simp only [hj] at HE
  rw [hj]
  clear hj
  go_wp2_with (first | ((with_reducible refine pc 127 j.cells infoMean 6 33 (w.heap.size + 2) _ HCC.out ?qa6f); (intro W2 hW2); (have HV9 := hid (HV8.out.put3 j hW2)); (clear hW2); (obtain ⟨z0, z1, z2, z3, z4⟩ := Mu.at j HV9.out.1.2.2)) | fail)
  refine bodyPost_ret (v := .tuple #[Mu.val j, .bool ok]) (by simp [results, Tryz.results68, go_sem, z0, z1, z2, z3, z4, Mu.val]) rfl ⟨by rw [HE.out]; rfl, HV9.out.2⟩
theorem Queue.with1 (m : Mu) (hm : m.In) (x : It) (hx : x.In) (A : Option Addr) (n c : Nat) (l : List It) (w : World) (base : Nat) (hb0 : base ≤ w.heap.size) (ho : OwnI w base A n c l) (hn : n ≤ 900000) (hz : ¬ m.n = 0) : Calls Tryz.prog 68 #[m.val, .slice A n c, x.val] w (AnsC (rowOf A) (.tuple #[Mu.val (withM m l x).2, .bool (withM m l x).1]) w) := by
 have hn : n ≤ 1000000 := by omega
 have HB0 := hid hb0
 have HXP : Hid (PIn x.pp) := hid ⟨hx.1, hx.2.1, hx.2.2.1⟩
 have HROW : Hid (∀ q ∈ rowOf A, q < w.heap.size) := hid (fun q hq => (ho.rowGe q hq).2)
 have hbelow := (((Below.refl w.heap.size w).alloc (Nat.le_refl _) (.cells #[.int .u64 m.b, .int .i64 (hiW m.a), .int .u64 (loW m.a), .int .u64 m.w, .int .i64 m.n] 127)).alloc (by simp) (.cells #[.int .u64 x.t, .int .u32 x.r, .int .u32 x.v, .int .i64 x.i, .int .u64 x.u, .int .u32 x.s, .int .u32 x.y] 29)).alloc (by simp; omega) (.cells #[.int .u64 0, .int .i64 0, .int .u64 0, .int .u64 0, .int .i64 0] 127)
 have HV0 : Hid (W3v w (rowOf A) m x ⟨0, 0, 0, 0⟩ (((w.alloc (.cells #[.int .u64 m.b, .int .i64 (hiW m.a), .int .u64 (loW m.a), .int .u64 m.w, .int .i64 m.n] 127)).alloc (.cells #[.int .u64 x.t, .int .u32 x.r, .int .u32 x.v, .int .i64 x.i, .int .u64 x.u, .int .u32 x.s, .int .u32 x.y] 29)).alloc (.cells #[.int .u64 0, .int .i64 0, .int .u64 0, .int .u64 0, .int .i64 0] 127))) := hid (by
  have h1 := Cs.alloc_new6 w 127 m.cells
  have h2 := Cs.new7 (w.alloc (.cells #[.int .u64 m.b, .int .i64 (hiW m.a), .int .u64 (loW m.a), .int .u64 m.w, .int .i64 m.n] 127)) 29 x
  have h3 := Cs.alloc_new6 ((w.alloc (.cells #[.int .u64 m.b, .int .i64 (hiW m.a), .int .u64 (loW m.a), .int .u64 m.w, .int .i64 m.n] 127)).alloc (.cells #[.int .u64 x.t, .int .u32 x.r, .int .u32 x.v, .int .i64 x.i, .int .u64 x.u, .int .u32 x.s, .int .u32 x.y] 29)) 127 [.int .u64 0, .int .i64 0, .int .u64 0, .int .u64 0, .int .i64 0]
  simp only [World.size_alloc] at h2 h3
  exact ⟨⟨(h1.alloc _).alloc _, h2.alloc _, by rw [zero_cells]; exact h3⟩, Chg.below hbelow⟩)
 have HO0 := hid (ho.below hbelow)
 have HX := hid hx
 obtain ⟨M, hM⟩ : ∃ M : Mu, M = ⟨m.b, m.a, m.w, m.n⟩ := ⟨_, rfl⟩
 have HM : Hid M.In := hid (by rw [hM]; exact ⟨hm.1, hm.2.1, hm.2.2.1, hm.2.2.2⟩)
 have HE : Hid (withM m l x = if withinI M.b (l ++ [x]) = true then ((M.add x.pp).1, nowM (M.add x.pp).2) else (false, Mu.no)) := hid (by unfold withM baseI; rw [hM]; simp only [if_neg hz])
 have HME := hid hM
 have c0 : (m.n == 0) = false := by simpa using hz
 clear hm hx ho hbelow hz hM
 unfold Mu.val It.val
 go_enter Tryz.func68, Tryz.ntmps68
 go_upto_region 1 with fail
 generalize (((w.alloc (.cells #[.int .u64 m.b, .int .i64 (hiW m.a), .int .u64 (loW m.a), .int .u64 m.w, .int .i64 m.n] 127)).alloc (.cells #[.int .u64 x.t, .int .u32 x.r, .int .u32 x.v, .int .i64 x.i, .int .u64 x.u, .int .u32 x.s, .int .u32 x.y] 29)).alloc (.cells #[.int .u64 0, .int .i64 0, .int .u64 0, .int .u64 0, .int .i64 0] 127)) = W at HV0 HO0 ⊢
 have HV : Hid (W3v w (rowOf A) M x ⟨0, 0, 0, 0⟩ W) := hid (by rw [HME.out]; exact HV0.out)
 have HO := HO0
 obtain ⟨m0, m1, m2, m3, m4⟩ := Mu.at m HV0.out.1.1
 go_upto_region 3 with fail
 clear HV0 HO0 m0 m1 m2 m3 m4
 obtain ⟨m0, m1, m2, m3, m4⟩ := Mu.at M HV.out.1.1
 obtain ⟨q0, q1, q2, q3, q4, q5, q6⟩ := It.at x HV.out.1.2.1
 clear m0 m1 m2 m3 m4 q0 q1 q2 q3 q4 q5 q6
 have HQ0 := hid (And.intro HV.out HO.out)
 go_wp2_with fail
 have hsT : Stays (fun wx => W3v w (rowOf A) M x ⟨0, 0, 0, 0⟩ wx) := fun _ _ h hb => h.below hb
 have hsU : Stays (fun wx => W3v w (rowOf A) M x ⟨0, 0, 0, 0⟩ wx ∧ OwnI wx base A n c l) := fun _ _ h hb => ⟨h.1.below hb, h.2.below hb⟩
 refine wp_region_any (by kernel_rfl) (wpAny_of_E (S0 := (fun wx => W3v w (rowOf A) M x ⟨0, 0, 0, 0⟩ wx)) (n := 8) _ (fun wx => W3v w (rowOf A) M x ⟨0, 0, 0, 0⟩ wx ∧ OwnI wx base A n c l) _ _ _ (hsU _ _ HQ0.out (Below.refl _ _).drew) ?_)
 refine wpAnyE_take (i := 0) (v := ?_) hsU (fun _ h => h.1) rfl (by kernel_rfl) (by kernel_rfl) (by kernel_rfl) (by kernel_rfl) (fun _ _ _ h => h) (SteadyB.of_yields (Or.inl ⟨by rfl, ?_⟩)) ?_
 rotate_left
 ·intro wq hSw
  go_simp; try with_reducible rfl
 try simp only [tdy]
 refine wpAnyE_take (i := 1) (v := ?_) hsU (fun _ h => h.1) rfl (by kernel_rfl) (by kernel_rfl) (by kernel_rfl) (by kernel_rfl) (fun _ _ _ h => h) (SteadyB.of_yields (Or.inl ⟨by rfl, ?_⟩)) ?_
 rotate_left
 ·intro wq hSw
  obtain ⟨m0, m1, m2, m3, m4⟩ := Mu.at M hSw.1.1
  obtain ⟨q0, q1, q2, q3, q4, q5, q6⟩ := It.at x hSw.1.2.1
  go_simp; try with_reducible rfl
 try simp only [tdy]
 refine wpAnyE_take (i := 2) (v := ?_) hsU (fun _ h => h.1) rfl (by kernel_rfl) (by kernel_rfl) (by kernel_rfl) (by kernel_rfl) (fun _ _ _ h => h) (SteadyB.of_yields (Or.inl ⟨by rfl, ?_⟩)) ?_
 rotate_left
 ·intro wq hSw
  go_simp; try with_reducible rfl
 try simp only [tdy]
 refine wpAnyE_take (i := 3) (v := ?_) hsU (fun _ h => h.1) rfl (by kernel_rfl) (by kernel_rfl) (by kernel_rfl) (by kernel_rfl) (fun _ _ _ h => h) (SteadyB.of_yields (Or.inl ⟨by rfl, ?_⟩)) ?_
 rotate_left
 ·intro wq hSw
  obtain ⟨m0, m1, m2, m3, m4⟩ := Mu.at M hSw.1.1
  obtain ⟨q0, q1, q2, q3, q4, q5, q6⟩ := It.at x hSw.1.2.1
  go_simp; try with_reducible rfl
 try simp only [tdy]
 refine wpAnyE_slice1 (i := 4) (fun wx g => Cs wx g x.cells) rfl (by kernel_rfl) (by decide) (by rfl) hsU (fun _ h => h.1) (fun g => fun _ _ h hb => h.below hb) (fun wq hSw => ?_) (fun gs => ?_)
 ·exact ⟨_, by go_simp; (try with_reducible rfl), (Below.refl _ _).alloc (Nat.le_refl _) _, Cs.new7 _ _ x⟩
 try simp only [tdy]
 refine wpAnyE_append_it (i := 5) rfl (by kernel_rfl) (by decide) (by rfl) rfl (.tmp 18) (.tmp 20) rfl base A n c l gs x hn (fun wq hSw => ⟨hSw.1.2, It.at x hSw.2, Nat.le_trans HB0.out hSw.1.1.2.size⟩) (fun A4 c4 wx => W3v w (rowOf A) M x ⟨0, 0, 0, 0⟩ wx ∧ RdI wx A4 (n + 1) (l ++ [x])) (fun _ _ _ _ hSw g1 g2 _ => ⟨hSw.1.1.chg g2 HROW.out, g1.rdi⟩) (fun _ _ _ h => h.1) (fun _ _ => fun _ _ h hb => ⟨h.1.below hb, h.2.below hb⟩) rfl rfl (fun A4 c4 => ?_)
 try simp only [tdy]
 refine wpAnyE_call (i := 6) (fun _ : Unit => Value.bool (withinI M.b (l ++ [x]))) (fun (_ : Unit) (_ : World) => True) rfl (by kernel_rfl) (by decide) (by rfl) (fun _ _ h hb => ⟨h.1.below hb, h.2.below hb⟩) (fun _ h => h.1) (fun yq => stays_tt yq) (fun wq hSw => ?_) (fun yq => ?_)
 ·exact RunI.of_calls (Span.within M.b A4 (n + 1) c4 (l ++ [x]) wq hSw.2 (by omega)) (by go_simp) (fun e w' h => ⟨(), h.1, trivial, h.2⟩)
 obtain ⟨⟩ := yq
 try simp only [tdy]
 refine tF 7 (fun _ _ h hb => ⟨⟨h.1.1.below hb, h.1.2.below hb⟩, trivial⟩) (fun _ h => h.1.1) ?_
 try simp only [tdy]
 refine wpAnyE_done (by kernel_rfl) (fun wz hSz => ?_) _
 replace hSz := hSz.1
 have HV5 := hid hSz.1
 clear hSz HQ0 HV HO
 obtain ⟨wi, hwi⟩ : ∃ wi, withinI M.b (l ++ [x]) = wi := ⟨_, rfl⟩
 rw [hwi] at HE ⊢
 clear hwi
 obtain ⟨m0, m1, m2, m3, m4⟩ := Mu.at M HV5.out.1.1
 obtain ⟨q0, q1, q2, q3, q4, q5, q6⟩ := It.at x HV5.out.1.2.1
 cases wi with
 | false =>
  have HCA := hid HV5.out.1.2.2
  go_wp2_with (first | ((with_reducible refine pc 127 [.int .u64 0, .int .i64 0, .int .u64 0, .int .u64 0, .int .i64 0] infoMean 6 24 (w.heap.size + 2) _ HCA.out ?qa7f); (intro W2 hW2); (rw [← zero_cells] at hW2); (have HV6 := hid (HV5.out.put3 ⟨0, 0, 0, 0⟩ hW2)); (clear hW2 m0 m1 m2 m3 m4 q0 q1 q2 q3 q4 q5 q6); (obtain ⟨z0, z1, z2, z3, z4⟩ := Mu.at _ HV6.out.1.2.2)) | fail)
  refine bodyPost_ret (v := .tuple #[Mu.val ⟨0, 0, 0, 0⟩, .bool false]) (by simp [results, Tryz.results68, go_sem, z0, z1, z2, z3, z4, Mu.val]) rfl ⟨by rw [HE.out]; rfl, HV6.out.2⟩
 | true =>
  obtain ⟨ok, k, hk⟩ : ∃ ok k, M.add x.pp = (ok, k) := ⟨_, _, rfl⟩
  have HKI : Hid k.In := hid (by have := add_in HM.out HXP.out; rwa [hk] at this)
  rw [hk] at HE
  go_wp2_with fail
  refine (Mean.add M x.pp HM.out HXP.out _).mono ?_
  rw [hk]
  rintro e w6 ⟨rfl, hb⟩
  have HV6 := hid (HV5.out.below hb)
  have HCB := hid HV6.out.1.1
  clear hb hk HV5 m0 m1 m2 m3 m4 q0 q1 q2 q3 q4 q5 q6
  go_wp2_with (first | ((with_reducible refine pc 127 k.cells infoMean 3 30 w.heap.size _ HCB.out ?qa8f); (intro W2 hW2); (have HV7 := hid (HV6.out.put1 k hW2)); (clear hW2); (obtain ⟨m0, m1, m2, m3, m4⟩ := Mu.at k HV7.out.1.1)) | fail)
  clear m0 m1 m2 m3 m4
  refine (Queue.fromNow k HKI.out _).mono ?_
  rintro e w8 ⟨rfl, hb⟩
  have HV8 := hid (HV7.out.below hb)
  have HCC := hid HV8.out.1.2.2
  clear hb HV6 HV7
  obtain ⟨j, hj⟩ : ∃ j, nowM k = j := ⟨_, rfl⟩
  simp only [hj] at HE
  rw [hj]
  clear hj
  go_wp2_with (first | ((with_reducible refine pc 127 j.cells infoMean 6 33 (w.heap.size + 2) _ HCC.out ?qa9f); (intro W2 hW2); (have HV9 := hid (HV8.out.put3 j hW2)); (clear hW2); (obtain ⟨z0, z1, z2, z3, z4⟩ := Mu.at j HV9.out.1.2.2)) | fail)
  refine bodyPost_ret (v := .tuple #[Mu.val j, .bool ok]) (by simp [results, Tryz.results68, go_sem, z0, z1, z2, z3, z4, Mu.val]) rfl ⟨by rw [HE.out]; rfl, HV9.out.2⟩
theorem Queue.with (m : Mu) (hm : m.In) (x : It) (hx : x.In) (A : Option Addr) (n c : Nat) (l : List It) (w : World) (base : Nat) (hb0 : base ≤ w.heap.size) (ho : OwnI w base A n c l) (hn : n ≤ 900000) : Calls Tryz.prog 68 #[m.val, .slice A n c, x.val] w (AnsC (rowOf A) (.tuple #[Mu.val (withM m l x).2, .bool (withM m l x).1]) w) := by
 by_cases hz : m.n = 0
 ·exact Queue.with0 m hm x hx A n c l w base hb0 ho hn hz
 ·exact Queue.with1 m hm x hx A n c l w base hb0 ho hn hz
end


section
open Go.RowKit
structure Qok (b : Int) (l : List It) : Prop where
 fw : Fw b l
 srt : SrtI l
 ids : (l.map (·.i)).Nodup
 now : nowI b l = b
 base : IsT b
def joinC (b : Int) (l : List It) (a : It) : Int :=
 if a.right = false then 2 else if (l.any fun y => decide (y.i = a.i)) = true then 13 else if l.length = 32 then 7 else if withinI (fromI b l a) (l ++ [a]) = false then 8 else 0
theorem joinC_0 {b : Int} {l : List It} {a : It} (h : joinC b l a = 0) : a.right = true ∧ (∀ y ∈ l, y.i ≠ a.i) ∧ l.length ≠ 32 ∧ withinI (fromI b l a) (l ++ [a]) = true := by
 unfold joinC at h
 split at h
 ·cases h
 ·rename_i h1
  split at h
  ·cases h
  ·rename_i h2
   split at h
   ·cases h
   ·rename_i h3
    split at h
    ·cases h
    ·rename_i h4
     exact ⟨by simpa using h1, by simpa using h2, h3, by simpa using h4⟩
theorem Qok.nil {b : Int} (h : IsT b) : Qok b [] := ⟨Fw.nil b, List.Pairwise.nil, by simp, by simp [nowI], h⟩
theorem qM_nil (b c : Int) : (⟨c, (qM b []).a, (qM b []).w, (qM b []).n⟩ : Mu) = qM c [] := by simp [qM, Mu.sums, sumD, sumW]
theorem base_from (b : Int) (l : List It) (a : It) : baseI (qM b l) a = fromI b l a := by
 unfold baseI fromI qM Mu.sums
 simp
theorem from_qM (b : Int) (l : List It) (a : It) : (⟨fromI b l a, (qM b l).a, (qM b l).w, (qM b l).n⟩ : Mu) = qM (fromI b l a) l := by
 unfold fromI
 split
 ·rename_i h
  have : l = [] := List.eq_nil_of_length_eq_zero h
  subst this
  exact qM_nil _ _
 ·rfl
theorem Fw.settled {b : Int} {l : List It} (h : Fw b l) (h0 : 0 < l.length) : nowM (qM b l) = qM (nowI b l) l := by
 obtain ⟨h1, h2⟩ := h.settle h0
 unfold nowM
 rw [h1, if_pos rfl, h2]
theorem Qok.join {b : Int} {l : List It} {a : It} (h : Qok b l) (ha : a.In) (hj : joinC b l a = 0) :
  withM (qM b l) l a = (true, qM (nowI (fromI b l a) (l ++ [a])) (insI a l)) ∧ Qok (nowI (fromI b l a) (l ++ [a])) (insI a l) ∧ (∀ (t : Tr It), t.list = l → Tr.has It.ahead a t = false ∧ ∀ k, (Tr.put It.ahead k a t).list = insI a l) := by
 obtain ⟨h1, h2, h3, h4⟩ := joinC_0 hj
 have h32 : l.length < 32 := by have := h.fw.few; omega
 obtain ⟨hF, hadd⟩ := h.fw.join h.now ha h1 h32 h4
 have p := insI_perm a l
 have hT : IsT (fromI b l a) := by unfold fromI; split; exact ha.1; exact h.base
 obtain ⟨T, k, hn⟩ := hF.nar
 have hna : nar T a = true := (hn a (by simp)).1
 have hnl : ∀ y ∈ l, nar T y = true := fun y hy => (hn y (by simp [hy])).1
 have hns : ∀ y ∈ l, ¬ same a y := fun y hy hs => by
  have := Wd.ahead_ne hna (hnl y hy) (fun e => h2 y hy e.symm)
  rw [hs.1, hs.2] at this
  cases this
 refine ⟨?_, ⟨?_, ?_, ?_, ?_, nowI_T hT _⟩, fun t ht => ⟨?_, fun k => ?_⟩⟩
 ·unfold withM
  rw [base_from, if_pos h4, from_qM, hadd]
  dsimp only
  rw [hF.settled (by simp), qM_perm (nowI (fromI b l a) (l ++ [a])) p]
 ·exact (hF.now).perm p
 ·exact Wd.SrtI.ins hna hnl h.srt hns
 ·rw [(p.map (·.i)).nodup_iff.symm, List.map_append, List.nodup_append]
  refine ⟨h.ids, by simp, fun x hx y hy e => ?_⟩
  obtain ⟨z, hz, rfl⟩ := List.mem_map.1 hx
  simp at hy
  exact h2 z hz (e.trans hy)
 ·rw [← nowI_perm _ p]; exact hF.now_now
 ·cases hh : Tr.has It.ahead a t with
  | false => rfl
  | true =>
   obtain ⟨y, hy, hs⟩ := (Wd.has_iffI a hna t (by rw [ht]; exact hnl) (by rw [ht]; exact h.srt)).1 hh
   rw [ht] at hy
   exact absurd hs (hns y hy)
 ·rw [Wd.list_putI k a hna t (by rw [ht]; exact hnl) (by rw [ht]; exact h.srt), ht]
theorem Qok.join_no {b : Int} {l : List It} {a : It} (h : withinI (fromI b l a) (l ++ [a]) = false) : withM (qM b l) l a = (false, Mu.no) := by
 unfold withM
 rw [base_from, if_neg (by rw [h]; simp)]
end


section
open Go.RowKit
def exA : It := ⟨5, 0, 1, 1, 9, 0, 1⟩
def exB : It := ⟨8, 0, 1, 2, 8, 0, 1⟩
theorem exA_in : exA.In := by unfold It.In exA; refine ⟨?_, ?_, ?_, ?_, ?_, ?_, ?_⟩ <;> exact ⟨by decide, by decide⟩
theorem exB_in : exB.In := by unfold It.In exB; refine ⟨?_, ?_, ?_, ?_, ?_, ?_, ?_⟩ <;> exact ⟨by decide, by decide⟩
theorem ex_join1 : joinC 0 [] exA = 0 := by decide +kernel
theorem ex_now1 : nowI (fromI 0 [] exA) ([] ++ [exA]) = 5 := by decide +kernel
theorem ex_ins1 : insI exA [] = [exA] := rfl
theorem ex_join2 : joinC 5 [exA] exB = 0 := by decide +kernel
theorem ex_now2 : nowI (fromI 5 [exA] exB) ([exA] ++ [exB]) = 6 := by decide +kernel
theorem ex_ins2 : insI exB [exA] = [exA, exB] := by
 have h : It.ahead exB exA = false := by decide +kernel
 simp [insI, h]
theorem ex_sign1 : ((qM 6 [exA, exB]).sign exA.pp).2 = 1 := by decide +kernel
theorem ex_sign2 : ((qM 6 [exA, exB]).sign exB.pp).2 = -1 := by decide +kernel
theorem ex_ok0 : Qok 0 [] := Qok.nil ⟨by decide, by decide⟩
theorem ex_ok1 : Qok 5 [exA] := by
 have := (ex_ok0.join exA_in ex_join1).2.1
 rwa [ex_now1, ex_ins1] at this
theorem ex_tree1 (k : Nat) : ((Tr.put It.ahead k exA .nil).paint false).list = [exA] := by
 rw [Tr.list_paint, ((ex_ok0.join exA_in ex_join1).2.2 .nil rfl).2 k]; rfl
theorem ex_ok2 : Qok 6 [exA, exB] := by
 have := (ex_ok1.join exB_in ex_join2).2.1
 rwa [ex_now2, ex_ins2] at this
theorem ex_tree2 (k1 k2 : Nat) : ((Tr.put It.ahead k2 exB ((Tr.put It.ahead k1 exA .nil).paint false)).paint false).list = [exA, exB] := by
 rw [Tr.list_paint, ((ex_ok1.join exB_in ex_join2).2.2 _ (ex_tree1 k1)).2 k2, ex_ins2]
theorem ex_soon (k1 k2 : Nat) : foldD (fun y => (qM 6 [exA, exB]).elig y.pp) ((Tr.put It.ahead k2 exB ((Tr.put It.ahead k1 exA .nil).paint false)).paint false) (false, It.zero) = (true, exA) := by
 obtain ⟨x, h1, _, h3⟩ := first_elig (b := 6) (t := (Tr.put It.ahead k2 exB ((Tr.put It.ahead k1 exA .nil).paint false)).paint false) (by rw [ex_tree2]; exact ex_ok2.fw) (by rw [ex_tree2]; exact ex_ok2.srt)
 rw [ex_tree2] at h1 h3
 rw [h1]
 have e1 : (qM 6 [exA, exB]).elig exA.pp = true := by decide +kernel
 have e2 : (qM 6 [exA, exB]).elig exB.pp = false := by decide +kernel
 have h4 := (h3 (by simp)).1
 simp [List.filter, e1, e2] at h4
 rw [h4]
 rfl
end

end Go.Proofs.YtjndmmcjobbcbaaGreatDoor

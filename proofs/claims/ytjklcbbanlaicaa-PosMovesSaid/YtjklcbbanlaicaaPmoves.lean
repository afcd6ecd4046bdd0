/- PosMoves: the walk. -/
import Derived.Test.YtjklcbbanlaicaaPback
import Derived.Test.YtjklcbbanlaicaaVs
namespace Go.Proofs.Ytjklcbbanlaicaa
open Go.RowKit

theorem Cs.put_2 {w : World} {g : Nat} {a b c : Value} (h : Cs w g [a, b, c]) (x : Value) : Cs (w.setCell ⟨g, 2, none⟩ x) g [a, b, x] := by
  have h0 := h.at0
  have h1 := h.at1
  have h2 := h.at2
  have f0 := h.fr0
  have f1 := h.fr1
  have f2 := h.fr2
  intro i y hy
  rcases i with _ | _ | _ | i
  · simp at hy; subst hy; simp [go_sem, h0, f0]
  · simp at hy; subst hy; simp [go_sem, h1, f1]
  · simp at hy; subst hy; simp [go_sem, h2, f2]
  · simp at hy

/-- What is asked of the second position, of the first one's weight. -/
def Second (t r v a T1 r1 u s : Int) : Prop :=
  (decide (1 ≤ v ∧ v ≤ 1048576) && decide (s < v)) = false ∨
  ((decide (1 ≤ v ∧ v ≤ 1048576) && decide (s < v)) = true ∧ 2305843009213693952 ≤ dif u t) ∨
  ((decide (1 ≤ v ∧ v ≤ 1048576) && decide (s < v)) = true ∧ dif u t < 2305843009213693952 ∧ dif u t ≤ -2305843009213693952) ∨
  ((decide (1 ≤ v ∧ v ≤ 1048576) && decide (s < v)) = true ∧ dif u t < 2305843009213693952 ∧ -2305843009213693952 < dif u t ∧ ∃ U1 s1 c : Int,
    (∀ w, Calls Try.prog 64 #[(.agg #[.int .u64 u, .int .u32 s, .int .u32 v]), .int .u64 a] w (Ans (.tuple #[(.agg #[.int .u64 U1, .int .u32 s1, .int .u32 v]), .bool true]) w)) ∧
    (∀ w, Calls Try.prog 60 #[(.agg #[.int .u64 U1, .int .u32 s1, .int .u32 v]), (.agg #[.int .u64 T1, .int .u32 r1, .int .u32 v])] w (Ans (.int .i64 c) w)) ∧
    (∀ w, Calls Try.prog 60 #[(.agg #[.int .u64 u, .int .u32 s, .int .u32 v]), (.agg #[.int .u64 t, .int .u32 r, .int .u32 v])] w (Ans (.int .i64 c) w)))

set_option maxRecDepth 100000 in
set_option maxHeartbeats 8000000 in
theorem Moves.core (t r v u s y a b T1 r1 T2 r2 c : Int) (a1 : a ≤ 2305843009213693952) (b1 : b ≤ 2305843009213693952) (e1 : IntKind.u64.wrap (a + b) = a + b) (e2 : IntKind.i64.wrap a = a) (e3 : wrap64 a = a)
    (hR : (decide (1 ≤ v ∧ v ≤ 1048576) && decide (r < v)) = true) (hR1 : (decide (1 ≤ v ∧ v ≤ 1048576) && decide (r1 < v)) = true)
    (hX : ∀ w, Calls Try.prog 64 #[(.agg #[.int .u64 t, .int .u32 r, .int .u32 v]), .int .u64 a] w (Ans (.tuple #[(.agg #[.int .u64 T1, .int .u32 r1, .int .u32 v]), .bool true]) w))
    (hY : ∀ w, Calls Try.prog 64 #[(.agg #[.int .u64 T1, .int .u32 r1, .int .u32 v]), .int .u64 b] w (Ans (.tuple #[(.agg #[.int .u64 T2, .int .u32 r2, .int .u32 v]), .bool true]) w))
    (hZ : ∀ w, Calls Try.prog 64 #[(.agg #[.int .u64 t, .int .u32 r, .int .u32 v]), .int .u64 (a + b)] w (Ans (.tuple #[(.agg #[.int .u64 T2, .int .u32 r2, .int .u32 v]), .bool true]) w))
    (hS : ¬ dif T1 t < 0)
    (hC : ∀ w, Calls Try.prog 60 #[(.agg #[.int .u64 T1, .int .u32 r1, .int .u32 v]), (.agg #[.int .u64 t, .int .u32 r, .int .u32 v])] w (Ans (.int .i64 c) w)) (hc : (c != min 1 a) = false)
    (h2 : Second t r v a T1 r1 u s) (w : World) :
    Calls Try.prog 16 #[(.agg #[.int .u64 t, .int .u32 r, .int .u32 v]), (.agg #[.int .u64 u, .int .u32 s, .int .u32 y]), .int .u64 a, .int .u64 b] w (Ans (.bool true) w) := by
  have HR := hid hR
  have HR1 := hid hR1
  have HX := hid hX
  have HY := hid hY
  have HZ := hid hZ
  have HC := hid hC
  have HE := hid h2
  clear hR hR1 hX hY hZ hC h2
  go_enter Try.func16, Try.ntmps16
  go_wp2_with fail
  refine (Law4.awake _).mono ?_
  rintro e w1 ⟨rfl, hb1⟩
  have V1 : Hid (Vs w [(w.heap.size + 1, [.int .u64 u, .int .u32 s, .int .u32 y]), (w.heap.size, [.int .u64 t, .int .u32 r, .int .u32 v])] w1) := hid (Vs.below (Vs.more (Vs.more (Vs.nil (((Below.refl _ _).alloc (Nat.le_refl _) _).alloc (by simp) _)) ((Cs.new3 _ _ _ _ _).alloc _)) (by have := Cs.new3 (w.alloc (.cells #[.int .u64 t, .int .u32 r, .int .u32 v] 75)) 75 (.int .u64 u) (.int .u32 s) (.int .u32 y); simpa using this)) hb1)
  clear hb1
  have pc := V1.out.at 1 rfl
  have p0 := pc.at0
  have p1 := pc.at1
  have p2 := pc.at2
  have pz := pc.lt
  clear pc
  go_wp2_with fail
  refine (Pos.right t r v _).mono ?_
  rintro e w2 ⟨rfl, hb2⟩
  rw [HR.out]
  have V2 := hid (V1.out.below hb2)
  clear hb2 V1
  clear p0 p1 p2 pz
  have pc := V2.out.at 1 rfl
  have p0 := pc.at0
  have p1 := pc.at1
  have p2 := pc.at2
  have pz := pc.lt
  clear pc
  go_wp2_with fail
  refine (HX.out _).mono ?_
  rintro e w3 ⟨rfl, hb3⟩
  have V3 := hid (V2.out.below hb3)
  clear hb3 V2
  clear p0 p1 p2 pz
  have pc := V3.out.at 1 rfl
  have p0 := pc.at0
  have p1 := pc.at1
  have p2 := pc.at2
  have pz := pc.lt
  clear pc
  go_wp2_with fail
  refine (HY.out _).mono ?_
  rintro e w4 ⟨rfl, hb4⟩
  have V4z := hid (show w.heap.size + 1 < w3.heap.size from (V3.out.at 0 rfl).lt)
  have V4 := hid ((Vs.more (V3.out.alloc _) (Cs.new3 w3 75 (.int .u64 T1) (.int .u32 r1) (.int .u32 v))).below hb4)
  clear hb4 V3
  clear p0 p1 p2 pz
  have pc := V4.out.at 2 rfl
  have p0 := pc.at0
  have p1 := pc.at1
  have p2 := pc.at2
  have pz := pc.lt
  clear pc
  have xc := V4.out.at 0 rfl
  have x0 := xc.at0
  have x1 := xc.at1
  have x2 := xc.at2
  have xz := xc.lt
  clear xc
  go_wp2_with fail
  refine (HZ.out _).mono ?_
  rintro e w5 ⟨rfl, hb5⟩
  have V5 := hid ((Vs.more (V4.out.alloc _) (Cs.new3 w4 75 (.int .u64 T2) (.int .u32 r2) (.int .u32 v))).below hb5)
  clear hb5 V4
  clear p0 p1 p2 pz x0 x1 x2 xz
  have pc := V5.out.at 3 rfl
  have p0 := pc.at0
  have p1 := pc.at1
  have p2 := pc.at2
  have pz := pc.lt
  clear pc
  have xc := V5.out.at 1 rfl
  have x0 := xc.at0
  have x1 := xc.at1
  have x2 := xc.at2
  have xz := xc.lt
  clear xc
  have kc := V5.out.at 0 rfl
  have k0 := kc.at0
  have k1 := kc.at1
  have k2 := kc.at2
  have kz := kc.lt
  clear kc
  go_wp2_with fail
  refine (Pos.right T1 r1 v _).mono ?_
  rintro e w6 ⟨rfl, hb6⟩
  rw [HR1.out]
  have V6 := hid ((V5.out.alloc _).below hb6)
  clear hb6 V5
  clear p0 p1 p2 pz x0 x1 x2 xz k0 k1 k2 kz
  have pc := V6.out.at 3 rfl
  have p0 := pc.at0
  have p1 := pc.at1
  have p2 := pc.at2
  have pz := pc.lt
  clear pc
  have xc := V6.out.at 1 rfl
  have x0 := xc.at0
  have x1 := xc.at1
  have x2 := xc.at2
  have xz := xc.lt
  clear xc
  go_wp2_with fail
  refine (Vtime.since T1 t _).mono ?_
  rintro e w7 ⟨rfl, hb7⟩
  have V7 := hid (V6.out.below hb7)
  clear hb7 V6
  clear p0 p1 p2 pz x0 x1 x2 xz
  have pc := V7.out.at 3 rfl
  have p0 := pc.at0
  have p1 := pc.at1
  have p2 := pc.at2
  have pz := pc.lt
  clear pc
  have xc := V7.out.at 1 rfl
  have x0 := xc.at0
  have x1 := xc.at1
  have x2 := xc.at2
  have xz := xc.lt
  clear xc
  go_wp2_with fail
  refine (HC.out _).mono ?_
  rintro e w8 ⟨rfl, hb8⟩
  have V8 := hid (V7.out.below hb8)
  clear hb8 V7
  clear p0 p1 p2 pz x0 x1 x2 xz
  have pc := V8.out.at 3 rfl
  have p0 := pc.at0
  have p1 := pc.at1
  have p2 := pc.at2
  have pz := pc.lt
  clear pc
  have qc := V8.out.at 2 rfl
  have q0 := qc.at0
  have q1 := qc.at1
  have q2 := qc.at2
  have qz := qc.lt
  clear qc
  have qf := (V8.out.at 2 rfl).fr2
  have V4y := V4z.out
  have W8 : Hid (Vs w [(w3.heap.size, [.int .u64 T1, .int .u32 r1, .int .u32 v]), (w.heap.size + 1, [.int .u64 u, .int .u32 s, .int .u32 v]), (w.heap.size, [.int .u64 t, .int .u32 r, .int .u32 v])] (w8.setCell ⟨w.heap.size + 1, 2, none⟩ (.int .u32 v))) := hid (Vs.more (Vs.more (Vs.more (Vs.nil (V8.out.2.setCell (by simp) _)) ((V8.out.at 3 rfl).far (by omega) _ _)) ((V8.out.at 2 rfl).put_2 _)) ((V8.out.at 1 rfl).far (by omega) _ _))
  clear V4y
  go_wp2_with fail
  refine (Pos.right u s v _).mono ?_
  rintro e w9 ⟨rfl, hb9⟩
  have V9 := hid (W8.out.below hb9)
  clear hb9 W8 V8 qf
  clear p0 p1 p2 pz q0 q1 q2 qz
  have pc := V9.out.at 2 rfl
  have p0 := pc.at0
  have p1 := pc.at1
  have p2 := pc.at2
  have pz := pc.lt
  clear pc
  have qc := V9.out.at 1 rfl
  have q0 := qc.at0
  have q1 := qc.at1
  have q2 := qc.at2
  have qz := qc.lt
  clear qc
  rcases HE.out with hE | ⟨hE, hF⟩ | ⟨hE, hF, hG⟩ | ⟨hE, hF, hG, U1, s1, c2, hV, hC2, hC3⟩
  · rw [hE]
    clear hE
    go_wp2_with fail
    go_ret
    exact ⟨rfl, V9.out.2⟩
  · rw [hE]
    clear hE
    go_wp2_with fail
    refine (Vtime.since u t _).mono ?_
    rintro e w10 ⟨rfl, hb10⟩
    have V10 := hid (V9.out.below hb10)
    go_wp2_with fail
    go_ret
    exact ⟨rfl, V10.out.2⟩
  · rw [hE]
    clear hE
    go_wp2_with fail
    refine (Vtime.since u t _).mono ?_
    rintro e w10 ⟨rfl, hb10⟩
    have V10 := hid (V9.out.below hb10)
    clear hb10 V9
    clear p0 p1 p2 pz q0 q1 q2 qz
    have pc := V10.out.at 2 rfl
    have p0 := pc.at0
    have p1 := pc.at1
    have p2 := pc.at2
    have pz := pc.lt
    clear pc
    have qc := V10.out.at 1 rfl
    have q0 := qc.at0
    have q1 := qc.at1
    have q2 := qc.at2
    have qz := qc.lt
    clear qc
    go_wp2_with fail
    refine (Vtime.since u t _).mono ?_
    rintro e w11 ⟨rfl, hb11⟩
    have V11 := hid (V10.out.below hb11)
    go_wp2_with fail
    go_ret
    exact ⟨rfl, V11.out.2⟩
  · rw [hE]
    have HV := hid hV
    have HC2 := hid hC2
    have HC3 := hid hC3
    clear hE hV hC2 hC3
    go_wp2_with fail
    refine (Vtime.since u t _).mono ?_
    rintro e w10 ⟨rfl, hb10⟩
    have V10 := hid (V9.out.below hb10)
    clear hb10 V9
    clear p0 p1 p2 pz q0 q1 q2 qz
    have pc := V10.out.at 2 rfl
    have p0 := pc.at0
    have p1 := pc.at1
    have p2 := pc.at2
    have pz := pc.lt
    clear pc
    have qc := V10.out.at 1 rfl
    have q0 := qc.at0
    have q1 := qc.at1
    have q2 := qc.at2
    have qz := qc.lt
    clear qc
    go_wp2_with fail
    refine (Vtime.since u t _).mono ?_
    rintro e w11 ⟨rfl, hb11⟩
    have V11 := hid (V10.out.below hb11)
    clear hb11 V10
    clear p0 p1 p2 pz q0 q1 q2 qz
    have pc := V11.out.at 2 rfl
    have p0 := pc.at0
    have p1 := pc.at1
    have p2 := pc.at2
    have pz := pc.lt
    clear pc
    have qc := V11.out.at 1 rfl
    have q0 := qc.at0
    have q1 := qc.at1
    have q2 := qc.at2
    have qz := qc.lt
    clear qc
    go_wp2_with fail
    refine (HV.out _).mono ?_
    rintro e w12 ⟨rfl, hb12⟩
    have V12 := hid (Vs.more ((V11.out.below hb12).alloc (.cells #[.int .u64 U1, .int .u32 s1, .int .u32 v] 75)) (Cs.new3 w12 75 (.int .u64 U1) (.int .u32 s1) (.int .u32 v)))
    clear hb12 V11
    clear p0 p1 p2 pz q0 q1 q2 qz
    go_wp2_with fail
    have SEE : Hid (∀ W, Vs w [(w12.heap.size, [.int .u64 U1, .int .u32 s1, .int .u32 v]), (w3.heap.size, [.int .u64 T1, .int .u32 r1, .int .u32 v]), (w.heap.size + 1, [.int .u64 u, .int .u32 s, .int .u32 v]), (w.heap.size, [.int .u64 t, .int .u32 r, .int .u32 v])] W → ((W.cell? ⟨w12.heap.size, 0, none⟩ = some (.int .u64 U1) ∧ W.cell? ⟨w12.heap.size, 1, none⟩ = some (.int .u32 s1) ∧ W.cell? ⟨w12.heap.size, 2, none⟩ = some (.int .u32 v)) ∧ (W.cell? ⟨w3.heap.size, 0, none⟩ = some (.int .u64 T1) ∧ W.cell? ⟨w3.heap.size, 1, none⟩ = some (.int .u32 r1) ∧ W.cell? ⟨w3.heap.size, 2, none⟩ = some (.int .u32 v)) ∧ (W.cell? ⟨w.heap.size + 1, 0, none⟩ = some (.int .u64 u) ∧ W.cell? ⟨w.heap.size + 1, 1, none⟩ = some (.int .u32 s) ∧ W.cell? ⟨w.heap.size + 1, 2, none⟩ = some (.int .u32 v)) ∧ (W.cell? ⟨w.heap.size, 0, none⟩ = some (.int .u64 t) ∧ W.cell? ⟨w.heap.size, 1, none⟩ = some (.int .u32 r) ∧ W.cell? ⟨w.heap.size, 2, none⟩ = some (.int .u32 v))) ∧ Vs w [(w12.heap.size, [.int .u64 U1, .int .u32 s1, .int .u32 v]), (w3.heap.size, [.int .u64 T1, .int .u32 r1, .int .u32 v]), (w.heap.size + 1, [.int .u64 u, .int .u32 s, .int .u32 v]), (w.heap.size, [.int .u64 t, .int .u32 r, .int .u32 v])] W) := hid fun W h => ⟨⟨⟨(h.at 0 rfl).at0, (h.at 0 rfl).at1, (h.at 0 rfl).at2⟩, ⟨(h.at 1 rfl).at0, (h.at 1 rfl).at1, (h.at 1 rfl).at2⟩, ⟨(h.at 2 rfl).at0, (h.at 2 rfl).at1, (h.at 2 rfl).at2⟩, ⟨(h.at 3 rfl).at0, (h.at 3 rfl).at1, (h.at 3 rfl).at2⟩⟩, h⟩
    go_region_held3 (fun w' => ((w'.cell? ⟨w12.heap.size, 0, none⟩ = some (.int .u64 U1) ∧ w'.cell? ⟨w12.heap.size, 1, none⟩ = some (.int .u32 s1) ∧ w'.cell? ⟨w12.heap.size, 2, none⟩ = some (.int .u32 v)) ∧ (w'.cell? ⟨w3.heap.size, 0, none⟩ = some (.int .u64 T1) ∧ w'.cell? ⟨w3.heap.size, 1, none⟩ = some (.int .u32 r1) ∧ w'.cell? ⟨w3.heap.size, 2, none⟩ = some (.int .u32 v)) ∧ (w'.cell? ⟨w.heap.size + 1, 0, none⟩ = some (.int .u64 u) ∧ w'.cell? ⟨w.heap.size + 1, 1, none⟩ = some (.int .u32 s) ∧ w'.cell? ⟨w.heap.size + 1, 2, none⟩ = some (.int .u32 v)) ∧ (w'.cell? ⟨w.heap.size, 0, none⟩ = some (.int .u64 t) ∧ w'.cell? ⟨w.heap.size, 1, none⟩ = some (.int .u32 r) ∧ w'.cell? ⟨w.heap.size, 2, none⟩ = some (.int .u32 v))) ∧ Vs w [(w12.heap.size, [.int .u64 U1, .int .u32 s1, .int .u32 v]), (w3.heap.size, [.int .u64 T1, .int .u32 r1, .int .u32 v]), (w.heap.size + 1, [.int .u64 u, .int .u32 s, .int .u32 v]), (w.heap.size, [.int .u64 t, .int .u32 r, .int .u32 v])] w')
      (first | with_reducible exact SEE.out _ V12.out.drew | with_reducible exact SEE.out _ (Vs.below (And.right (by assumption : (_ ∧ _ ∧ _ ∧ _) ∧ Vs w _ _)) hb13))
      (first
        | (go_at_call_of 60 (Value.agg #[Value.int .u64 T1, Value.int .u32 r1, Value.int .u32 v]); refine (HC2.out _).mono ?_; rintro e w13 ⟨rfl, hb13⟩)
        | (go_at_call_of 60 (Value.agg #[Value.int .u64 t, Value.int .u32 r, Value.int .u32 v]); refine (HC3.out _).mono ?_; rintro e w13 ⟨rfl, hb13⟩))
    have HF13 := hid (And.right (by assumption : (_ ∧ _ ∧ _ ∧ _) ∧ Vs w [(w12.heap.size, [.int .u64 U1, .int .u32 s1, .int .u32 v]), (w3.heap.size, [.int .u64 T1, .int .u32 r1, .int .u32 v]), (w.heap.size + 1, [.int .u64 u, .int .u32 s, .int .u32 v]), (w.heap.size, [.int .u64 t, .int .u32 r, .int .u32 v])] w13)).2
    go_wp2
    go_ret
    exact ⟨by simp, HF13.out⟩

end Go.Proofs.Ytjklcbbanlaicaa

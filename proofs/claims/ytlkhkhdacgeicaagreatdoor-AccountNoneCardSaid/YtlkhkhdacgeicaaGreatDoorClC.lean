/- The contracts of the package clamp: how far from 0, and what lags carry. -/
import Derived.Test.YtlkhkhdacgeicaaGreatDoorAccountNoneZ27
import Derived.Test.YtlkhkhdacgeicaaGreatDoorSum
namespace Go.Proofs.YtlkhkhdacgeicaaGreatDoor
open Go.RowKit
/-- A wide number, and what is answered. -/
def Rz2 (w : World) (x : Int) (r : List Value) (w' : World) : Prop := Cs w' w.heap.size [.int .i64 (hiW x), .int .u64 (loW x)] ∧ Cs w' (w.heap.size + 1) r ∧ Below w.heap.size w w'
theorem Rz2.below {w w1 w2 : World} {x : Int} {r : List Value} (h : Rz2 w x r w1) (hb : Below w1.heap.size w1 w2) : Rz2 w x r w2 := ⟨h.1.below hb, h.2.1.below hb, below_on h.2.2 hb⟩
theorem Rz2.new (w : World) (x : Int) : Rz2 w x [.int .i64 0, .int .u64 0] ((w.alloc (.cells #[.int .i64 (hiW x), .int .u64 (loW x)] 29)).alloc (.cells #[.int .i64 0, .int .u64 0] 29)) := by
  have h2 := Cs.alloc_new6 (w.alloc (.cells #[.int .i64 (hiW x), .int .u64 (loW x)] 29)) 29 [.int .i64 0, .int .u64 0]
  simp only [World.size_alloc] at h2
  exact ⟨(Cs.alloc_new6 w 29 [.int .i64 (hiW x), .int .u64 (loW x)]).alloc _, h2, ((Below.refl w.heap.size w).alloc (Nat.le_refl _) _).alloc (by simp) _⟩
theorem Rz2.put {w w1 : World} {x : Int} {a b : Value} (h : Rz2 w x [a, b] w1) {a' b' : Value} {W : World} (hW : W = w1.setCells (w.heap.size + 1) 0 [a', b']) : Cs W (w.heap.size + 1) [a', b'] ∧ Below w.heap.size w W := by
  rw [hW]; exact ⟨Cs.putL _ 0 h.2.1 (by simp), below_sets (by omega) _ _ h.2.2⟩
set_option maxRecDepth 100000 in
set_option maxHeartbeats 4000000 in
theorem Clamp.size (x : Int) (hx : WR x) (w : World) : Calls Tryz.prog 201 #[wv x] w (Ans (wv (szI x)) w) := by
  have HX := hid hx
  have HQ0 := hid (Rz2.new w x)
  unfold wv
  by_cases c : 0 ≤ x
  · have C1 := hid (cmpI_ge0.2 c)
    have E : Hid (szI x = x) := hid (by unfold szI; rw [if_pos c])
    rw [E.out]
    clear hx c E
    go_enter Tryz.func201, Tryz.ntmps201
    go_wp2_with fail
    generalize ((w.alloc (.cells #[.int .i64 (hiW x), .int .u64 (loW x)] 29)).alloc (.cells #[.int .i64 0, .int .u64 0] 29)) = W0 at HQ0 ⊢
    obtain ⟨k0, k1⟩ := HQ0.out.1.two
    go_wp2_with fail
    refine (Wide.signF HX.out _).mono ?_
    rintro e w1 ⟨rfl, hb⟩
    have HQ1 := hid (HQ0.out.below hb)
    clear hb HQ0 k0 k1
    obtain ⟨k0, k1⟩ := HQ1.out.1.two
    have c1 := C1.out
    have HCr := hid HQ1.out.2.1
    go_wp2_with (first | ((with_reducible refine wpList_put_cs 29 [.int .i64 (hiW x), .int .u64 (loW x)] infoWide rfl (.tmp 2) (.tmp 8) rfl (w.heap.size + 1) _ HCr.out ?h30001_1 ?h30001_2 ?h30001_3 ?h30001_4 ?h30001_5 ?h30001_6); (case h30001_1 => rfl); (case h30001_2 => rfl); (case h30001_3 => rfl); (case h30001_4 => rfl); (case h30001_5 => rfl); (intro W2 hW2); (have HW := hid (HQ1.out.put hW2)); (clear hW2)) | fail)
    obtain ⟨z0, z1⟩ := HW.out.1.two
    go_wp2_with fail
    refine bodyPost_ret (v := wv x) (by simp [results, Tryz.results201, go_sem, z0, z1, hiW0, loW0]) rfl ⟨rfl, HW.out.2⟩
  · have C1 := hid (show ¬ 0 ≤ cmpI x 0 from fun h => c (cmpI_ge0.1 h))
    cases hk : okW (-x) with
    | true =>
      have E : Hid (szI x = -x) := hid (by
        have := okW_iff.1 hk
        unfold WR at this
        unfold szI; rw [if_neg c, if_neg (by omega)])
      rw [E.out]
      have H1 := hid hk
      have H2 := hid (clW_ok hk)
      clear hx c E hk
      go_enter Tryz.func201, Tryz.ntmps201
      go_wp2_with fail
      generalize ((w.alloc (.cells #[.int .i64 (hiW x), .int .u64 (loW x)] 29)).alloc (.cells #[.int .i64 0, .int .u64 0] 29)) = W0 at HQ0 ⊢
      obtain ⟨k0, k1⟩ := HQ0.out.1.two
      go_wp2_with fail
      refine (Wide.signF HX.out _).mono ?_
      rintro e w1 ⟨rfl, hb⟩
      have HQ1 := hid (HQ0.out.below hb)
      clear hb HQ0 k0 k1
      obtain ⟨k0, k1⟩ := HQ1.out.1.two
      have c1 := C1.out
      go_wp2_with fail
      refine (Wide.negF HX.out _).mono ?_
      rw [H1.out, H2.out]
      rintro e w2 ⟨rfl, hb⟩
      have HQ2 := hid ((HQ1.out.below hb).below ((Below.refl _ _).alloc (Nat.le_refl _) (.cells #[.int .i64 (hiW (-x)), .int .u64 (loW (-x))] 29)))
      have HG : Hid (Cs (w2.alloc (.cells #[.int .i64 (hiW (-x)), .int .u64 (loW (-x))] 29)) w2.heap.size [.int .i64 (hiW (-x)), .int .u64 (loW (-x))]) := hid (Cs.new2 w2 _ _ _)
      clear hb HQ1 k0 k1 c1
      obtain ⟨k0, k1⟩ := HG.out.two
      have HCr := hid HQ2.out.2.1
      go_wp2_with (first | ((with_reducible refine wpList_put_cs 29 [.int .i64 (hiW (-x)), .int .u64 (loW (-x))] infoWide rfl (.tmp 2) (.tmp 17) rfl (w.heap.size + 1) _ HCr.out ?h30002_1 ?h30002_2 ?h30002_3 ?h30002_4 ?h30002_5 ?h30002_6); (case h30002_1 => rfl); (case h30002_2 => rfl); (case h30002_3 => rfl); (case h30002_4 => rfl); (case h30002_5 => rfl); (intro W2 hW2); (have HW := hid (HQ2.out.put hW2)); (clear hW2)) | fail)
      obtain ⟨z0, z1⟩ := HW.out.1.two
      go_wp2_with fail
      refine bodyPost_ret (v := wv (-x)) (by simp [results, Tryz.results201, go_sem, z0, z1, hiW0, loW0]) rfl ⟨rfl, HW.out.2⟩
    | false =>
      have E : Hid (szI x = mxW) := hid (by
        have := okW_no hk
        unfold WR at this hx
        unfold szI; rw [if_neg c, if_pos (by omega)])
      rw [E.out]
      have H1 := hid hk
      have H2 := hid (clW_no hk)
      clear hx c E hk
      go_enter Tryz.func201, Tryz.ntmps201
      go_wp2_with fail
      generalize ((w.alloc (.cells #[.int .i64 (hiW x), .int .u64 (loW x)] 29)).alloc (.cells #[.int .i64 0, .int .u64 0] 29)) = W0 at HQ0 ⊢
      obtain ⟨k0, k1⟩ := HQ0.out.1.two
      go_wp2_with fail
      refine (Wide.signF HX.out _).mono ?_
      rintro e w1 ⟨rfl, hb⟩
      have HQ1 := hid (HQ0.out.below hb)
      clear hb HQ0 k0 k1
      obtain ⟨k0, k1⟩ := HQ1.out.1.two
      have c1 := C1.out
      go_wp2_with fail
      refine (Wide.negF HX.out _).mono ?_
      rw [H1.out, H2.out]
      rintro e w2 ⟨rfl, hb⟩
      have HQ2 := hid ((HQ1.out.below hb).below ((Below.refl _ _).alloc (Nat.le_refl _) (.cells #[.int .i64 (hiW 0), .int .u64 (loW 0)] 29)))
      clear hb HQ1 k0 k1 c1
      go_wp2_with fail
      refine (Clamp.greatest _).mono ?_
      rintro e w3 ⟨rfl, hb⟩
      have HQ3 := hid (HQ2.out.below hb)
      clear hb HQ2
      have HCr := hid HQ3.out.2.1
      go_wp2_with (first | ((with_reducible refine wpList_put_cs 29 [.int .i64 (hiW mxW), .int .u64 (loW mxW)] infoWide rfl (.tmp 2) (.tmp 16) rfl (w.heap.size + 1) _ HCr.out ?h30003_1 ?h30003_2 ?h30003_3 ?h30003_4 ?h30003_5 ?h30003_6); (case h30003_1 => rfl); (case h30003_2 => rfl); (case h30003_3 => rfl); (case h30003_4 => rfl); (case h30003_5 => rfl); (intro W2 hW2); (have HW := hid (HQ3.out.put hW2)); (clear hW2)) | fail)
      obtain ⟨z0, z1⟩ := HW.out.1.two
      go_wp2_with fail
      refine bodyPost_ret (v := wv mxW) (by simp [results, Tryz.results201, go_sem, z0, z1, hiW0, loW0]) rfl ⟨rfl, HW.out.2⟩
/-- Wide numbers, as a list of their words. -/
def wds (l : List Int) : List (Int × Int) := l.map fun x => (hiW x, loW x)
theorem RdW.new3 (w : World) (t : TypeId) (a b c : Int) : RdW (w.alloc (.cells #[.int .i64 (hiW a), .int .u64 (loW a), .int .i64 (hiW b), .int .u64 (loW b), .int .i64 (hiW c), .int .u64 (loW c)] t)) (some ⟨w.heap.size, 0, none⟩) 3 (wds [a, b, c]) :=
  ⟨rfl, fun _ _ => ⟨_, 0, rfl, by simp, fun j hj => by
    rcases j with _ | _ | _ | j
    · simp [wds]
    · simp [wds]
    · simp [wds]
    · omega⟩⟩
theorem RdW.new2 (w : World) (t : TypeId) (a b : Int) : RdW (w.alloc (.cells #[.int .i64 (hiW a), .int .u64 (loW a), .int .i64 (hiW b), .int .u64 (loW b)] t)) (some ⟨w.heap.size, 0, none⟩) 2 (wds [a, b]) :=
  ⟨rfl, fun _ _ => ⟨_, 0, rfl, by simp, fun j hj => by
    rcases j with _ | _ | j
    · simp [wds]
    · simp [wds]
    · omega⟩⟩
end Go.Proofs.YtlkhkhdacgeicaaGreatDoor

/- Texts of ReqServes's proof, together. -/
import Derived.Test.YtjndmmcjobbcbaaGreatDoorOrdG
import Derived.Test.YtjndmmcjobbcbaaGreatDoorReqServesZ15
import Derived.Test.YtjndmmcjobbcbaaGreatDoorReqServesZ19
import Derived.Test.YtjndmmcjobbcbaaGreatDoorReqServesZ20
import Derived.Test.YtjndmmcjobbcbaaGreatDoorReqServesZ21
import Derived.Test.YtjndmmcjobbcbaaGreatDoorReqServesZ25
import Derived.Test.YtjndmmcjobbcbaaGreatDoorReqServesZ17
import Derived.Test.YtjndmmcjobbcbaaGreatDoorSum
import Derived.Test.YtjndmmcjobbcbaaGreatDoorOpenI
import Derived.Test.YtjndmmcjobbcbaaGreatDoorReqServesZ22
namespace Go.Proofs.YtjndmmcjobbcbaaGreatDoor

section
open Go.RowKit
theorem Rd.setCells {A : Option Addr} {n : Nat} {zs : List Int} {g : Nat} : ∀ (vs : List Value) (o : Nat) {w : World}, (∀ b off, A = some ⟨b, off, none⟩ → 0 < n → b ≠ g) → Rd w A n zs → Rd (w.setCells g o vs) A n zs
 | [], _, _, _, h => h
 | v :: r, o, _, hne, h => Rd.setCells r (o + 1) hne (h.setCell hne o v)
theorem IsB.sets {w : World} {L : Nat} {s : Bool} {A : Option Addr} {n c : Nat} {z : Int} (h : IsB w L s A n c z) {g : Nat} (hg : NoInt w g) (o : Nat) (vs : List Value) : IsB (w.setCells g o vs) L s A n c z := by
 obtain ⟨zs, h1, h2⟩ := h
 exact ⟨zs, Rd.setCells vs o (h1.ne_block hg) h1, h2⟩
theorem Var.cs {w : World} {g : Nat} {s : Bool} {A : Option Addr} {n c : Nat} (h : Var w g s A n c) : Cs w g [.bool s, .slice A n c] := fun i v hv => by
 rcases i with _ | _ | i
 ·injection hv with hv; subst hv; exact ⟨h.1, h.2.2.1⟩
 ·injection hv with hv; subst hv; exact ⟨h.2.1, h.2.2.2.1⟩
 ·cases hv
theorem Var.sets {w : World} {g : Nat} {s : Bool} {A : Option Addr} {n c : Nat} (h : Var w g s A n c) (s' : Bool) (A' : Option Addr) (n' c' : Nat) : Var (w.setCells g 0 [.bool s', .slice A' n' c']) g s' A' n' c' := h.store s' A' n' c'
theorem Var.fars {g : Nat} {s : Bool} {A : Option Addr} {n c : Nat} {b : Nat} (hb : b ≠ g) : ∀ (vs : List Value) (o : Nat) {w : World}, Var w g s A n c → Var (w.setCells b o vs) g s A n c
 | [], _, _, h => h
 | v :: r, o, _, h => Var.fars hb r (o + 1) (h.far1 hb o v)
end


section
open Go.RowKit
theorem infoP4 : (Tryz.prog.info? 57).map (·.size) = some 3 := by kernel_rfl
end


section
open Go.RowKit
set_option maxRecDepth 100000
set_option maxHeartbeats 32000000
def Rz2 (w : World) (x : Int) (r : List Value) (w' : World) : Prop := Cs w' w.heap.size [.int .i64 (hiW x), .int .u64 (loW x)] ∧ Cs w' (w.heap.size + 1) r ∧ Below w.heap.size w w'
theorem Rz2.below {w w1 w2 : World} {x : Int} {r : List Value} (h : Rz2 w x r w1) (hb : Below w1.heap.size w1 w2) : Rz2 w x r w2 := ⟨h.1.below hb, h.2.1.below hb, below_on h.2.2 hb⟩
theorem Rz2.new (w : World) (x : Int) : Rz2 w x [.int .i64 0, .int .u64 0] ((w.alloc (.cells #[.int .i64 (hiW x), .int .u64 (loW x)] 45)).alloc (.cells #[.int .i64 0, .int .u64 0] 45)) := by
 have h2 := Cs.alloc_new6 (w.alloc (.cells #[.int .i64 (hiW x), .int .u64 (loW x)] 45)) 45 [.int .i64 0, .int .u64 0]
 simp only [World.size_alloc] at h2
 exact ⟨(Cs.alloc_new6 w 45 [.int .i64 (hiW x), .int .u64 (loW x)]).alloc _, h2, ((Below.refl w.heap.size w).alloc (Nat.le_refl _) _).alloc (by simp) _⟩
theorem Rz2.put {w w1 : World} {x : Int} {a b : Value} (h : Rz2 w x [a, b] w1) {a' b' : Value} {W : World} (hW : W = w1.setCells (w.heap.size + 1) 0 [a', b']) : Cs W (w.heap.size + 1) [a', b'] ∧ Below w.heap.size w W := by
 rw [hW]; exact ⟨Cs.putL _ 0 h.2.1 (by simp), below_sets (by omega) _ _ h.2.2⟩
theorem Clamp.size (x : Int) (hx : WR x) (w : World) : Calls Tryz.prog 255 #[wv x] w (Ans (wv (szI x)) w) := by
 have HX := hid hx
 have HQ0 := hid (Rz2.new w x)
 unfold wv
 by_cases c : 0 ≤ x
 ·have C1 := hid (cmpI_ge0.2 c)
  have E : Hid (szI x = x) := hid (by unfold szI; rw [if_pos c])
  rw [E.out]
  clear hx c E
  go_enter Tryz.func255, Tryz.ntmps255
  go_wp2_with fail
  generalize ((w.alloc (.cells #[.int .i64 (hiW x), .int .u64 (loW x)] 45)).alloc (.cells #[.int .i64 0, .int .u64 0] 45)) = W0 at HQ0 ⊢
  obtain ⟨k0, k1⟩ := HQ0.out.1.two
  go_wp2_with fail
  refine (Wide.signF HX.out _).mono ?_
  rintro e w1 ⟨rfl, hb⟩
  have HQ1 := hid (HQ0.out.below hb)
  clear hb HQ0 k0 k1
  obtain ⟨k0, k1⟩ := HQ1.out.1.two
  have c1 := C1.out
  have HCr := hid HQ1.out.2.1
  go_wp2_with (first | ((with_reducible refine pc 45 [.int .i64 (hiW x), .int .u64 (loW x)] infoWide 2 8 (w.heap.size + 1) _ HCr.out ?h30001_6); (intro W2 hW2); (have HW := hid (HQ1.out.put hW2)); (clear hW2)) | fail)
  obtain ⟨z0, z1⟩ := HW.out.1.two
  go_wp2_with fail
  refine bodyPost_ret (v := wv x) (by simp [results, Tryz.results255, go_sem, z0, z1, hiW0, loW0]) rfl ⟨rfl, HW.out.2⟩
 ·have C1 := hid (show ¬ 0 ≤ cmpI x 0 from fun h => c (cmpI_ge0.1 h))
  cases hk : okW (-x) with
  | true =>
   have E : Hid (szI x = -x) := hid (by
    have := okW_iff.1 hk
    unfold WR at this
    unfold szI; rw [if_neg c, if_neg (by omega)])
   rw [E.out]
   have H1 := hid hk
   have H2 := hid (clW_ok hk)
   clear hx c E hk
   go_enter Tryz.func255, Tryz.ntmps255
   go_wp2_with fail
   generalize ((w.alloc (.cells #[.int .i64 (hiW x), .int .u64 (loW x)] 45)).alloc (.cells #[.int .i64 0, .int .u64 0] 45)) = W0 at HQ0 ⊢
   obtain ⟨k0, k1⟩ := HQ0.out.1.two
   go_wp2_with fail
   refine (Wide.signF HX.out _).mono ?_
   rintro e w1 ⟨rfl, hb⟩
   have HQ1 := hid (HQ0.out.below hb)
   clear hb HQ0 k0 k1
   obtain ⟨k0, k1⟩ := HQ1.out.1.two
   have c1 := C1.out
   go_wp2_with fail
   refine (Wide.negF HX.out _).mono ?_
   rw [H1.out, H2.out]
   rintro e w2 ⟨rfl, hb⟩
   have HQ2 := hid ((HQ1.out.below hb).below ((Below.refl _ _).alloc (Nat.le_refl _) (.cells #[.int .i64 (hiW (-x)), .int .u64 (loW (-x))] 45)))
   have HG : Hid (Cs (w2.alloc (.cells #[.int .i64 (hiW (-x)), .int .u64 (loW (-x))] 45)) w2.heap.size [.int .i64 (hiW (-x)), .int .u64 (loW (-x))]) := hid (Cs.new2 w2 _ _ _)
   clear hb HQ1 k0 k1 c1
   obtain ⟨k0, k1⟩ := HG.out.two
   have HCr := hid HQ2.out.2.1
   go_wp2_with (first | ((with_reducible refine pc 45 [.int .i64 (hiW (-x)), .int .u64 (loW (-x))] infoWide 2 17 (w.heap.size + 1) _ HCr.out ?h30002_6); (intro W2 hW2); (have HW := hid (HQ2.out.put hW2)); (clear hW2)) | fail)
   obtain ⟨z0, z1⟩ := HW.out.1.two
   go_wp2_with fail
   refine bodyPost_ret (v := wv (-x)) (by simp [results, Tryz.results255, go_sem, z0, z1, hiW0, loW0]) rfl ⟨rfl, HW.out.2⟩
  | false =>
   have E : Hid (szI x = mxW) := hid (by
    have := okW_no hk
    unfold WR at this hx
    unfold szI; rw [if_neg c, if_pos (by omega)])
   rw [E.out]
   have H1 := hid hk
   have H2 := hid (clW_no hk)
   clear hx c E hk
   go_enter Tryz.func255, Tryz.ntmps255
   go_wp2_with fail
   generalize ((w.alloc (.cells #[.int .i64 (hiW x), .int .u64 (loW x)] 45)).alloc (.cells #[.int .i64 0, .int .u64 0] 45)) = W0 at HQ0 ⊢
   obtain ⟨k0, k1⟩ := HQ0.out.1.two
   go_wp2_with fail
   refine (Wide.signF HX.out _).mono ?_
   rintro e w1 ⟨rfl, hb⟩
   have HQ1 := hid (HQ0.out.below hb)
   clear hb HQ0 k0 k1
   obtain ⟨k0, k1⟩ := HQ1.out.1.two
   have c1 := C1.out
   go_wp2_with fail
   refine (Wide.negF HX.out _).mono ?_
   rw [H1.out, H2.out]
   rintro e w2 ⟨rfl, hb⟩
   have HQ2 := hid ((HQ1.out.below hb).below ((Below.refl _ _).alloc (Nat.le_refl _) (.cells #[.int .i64 (hiW 0), .int .u64 (loW 0)] 45)))
   clear hb HQ1 k0 k1 c1
   go_wp2_with fail
   refine (Clamp.greatest _).mono ?_
   rintro e w3 ⟨rfl, hb⟩
   have HQ3 := hid (HQ2.out.below hb)
   clear hb HQ2
   have HCr := hid HQ3.out.2.1
   go_wp2_with (first | ((with_reducible refine pc 45 [.int .i64 (hiW mxW), .int .u64 (loW mxW)] infoWide 2 16 (w.heap.size + 1) _ HCr.out ?h30003_6); (intro W2 hW2); (have HW := hid (HQ3.out.put hW2)); (clear hW2)) | fail)
   obtain ⟨z0, z1⟩ := HW.out.1.two
   go_wp2_with fail
   refine bodyPost_ret (v := wv mxW) (by simp [results, Tryz.results255, go_sem, z0, z1, hiW0, loW0]) rfl ⟨rfl, HW.out.2⟩
def wds (l : List Int) : List (Int × Int) := l.map fun x => (hiW x, loW x)
theorem vW_wds {x : Int} : vW (hiW x, loW x) = x := by unfold vW hiW loW; simp only; omega
theorem wds_length (l : List Int) : (wds l).length = l.length := by unfold wds; rw [List.length_map]
theorem wds_get {l : List Int} {k : Nat} (hk : k < l.length) : (wds l).getD k (0, 0) = (hiW (l.getD k 0), loW (l.getD k 0)) := by
 unfold wds; simp [List.getD, hk]
theorem wds_all {l : List Int} (h : ∀ x ∈ l, WR x) : AllW (wds l) := fun p hp => by
 obtain ⟨x, hx, rfl⟩ := List.mem_map.1 hp
 rw [vW_wds]; exact isW_of (h x hx)
theorem RdW.new3 (w : World) (t : TypeId) (a b c : Int) : RdW (w.alloc (.cells #[.int .i64 (hiW a), .int .u64 (loW a), .int .i64 (hiW b), .int .u64 (loW b), .int .i64 (hiW c), .int .u64 (loW c)] t)) (some ⟨w.heap.size, 0, none⟩) 3 (wds [a, b, c]) :=
 ⟨rfl, fun _ _ => ⟨_, 0, rfl, by simp, fun j hj => by
  rcases j with _ | _ | _ | j
  ·simp [wds]
  ·simp [wds]
  ·simp [wds]
  ·omega⟩⟩
theorem RdW.new2 (w : World) (t : TypeId) (a b : Int) : RdW (w.alloc (.cells #[.int .i64 (hiW a), .int .u64 (loW a), .int .i64 (hiW b), .int .u64 (loW b)] t)) (some ⟨w.heap.size, 0, none⟩) 2 (wds [a, b]) :=
 ⟨rfl, fun _ _ => ⟨_, 0, rfl, by simp, fun j hj => by
  rcases j with _ | _ | j
  ·simp [wds]
  ·simp [wds]
  ·omega⟩⟩
theorem Wide.sum3 {a b : Int} (a0 : 0 ≤ a) (ha : WR a) (b0 : 0 ≤ b) (hb : WR b) (A : Option Addr) (c : Nat) (w : World) (hr : RdW w A 3 (wds [a, b, 2])) :
  Calls Tryz.prog 254 #[.slice A 3 c] w (Ans (.tuple #[wv (clW (a + b + 2)), .bool (okW (a + b + 2))]) w) := by
 have hall : ∀ x ∈ [a, b, 2], WR x := by
  intro x hx
  simp only [List.mem_cons, List.not_mem_nil, or_false] at hx
  rcases hx with rfl | rfl | rfl
  ·exact ha
  ·exact hb
  ·unfold WR; omega
 refine (Wide.sum A 3 c (wds [a, b, 2]) w hr (wds_all hall) (by decide)).mono ?_
 have e0 : sumZ ((wds [a, b, 2]).take 0) = 0 := rfl
 have e1 : sumZ ((wds [a, b, 2]).take 1) = a := by show vW (hiW a, loW a) + 0 = a; rw [vW_wds]; omega
 have e2 : sumZ ((wds [a, b, 2]).take 2) = a + b := by show vW (hiW a, loW a) + (vW (hiW b, loW b) + 0) = a + b; rw [vW_wds, vW_wds]; omega
 have e3 : sumZ (wds [a, b, 2]) = a + b + 2 := by show vW (hiW a, loW a) + (vW (hiW b, loW b) + (vW (hiW 2, loW 2) + 0)) = a + b + 2; rw [vW_wds, vW_wds, vW_wds]; omega
 rintro e w' ⟨h, l, ok, rfl, hs, hb'⟩
 rcases hs with ⟨rfl, g1, g2⟩ | ⟨rfl, rfl, rfl, j, hj, hw⟩
 ·rw [e3] at g2
  have hk := okW_iff.2 g2.wr
  rw [clW_ok hk, hk]
  obtain ⟨rfl, rfl⟩ := g2.words
  exact ⟨rfl, hb'⟩
 ·have hk : okW (a + b + 2) = false := by
   cases e : okW (a + b + 2)
   ·rfl
   ·have hwr := okW_iff.1 e
    exfalso
    apply hw
    have hj3 : j ≤ 3 := hj
    unfold WR at *
    rcases j with _ | _ | _ | _ | j
    ·rw [e0]; omega
    ·rw [e1]; omega
    ·rw [e2]; omega
    ·rw [show sumZ ((wds [a, b, 2]).take 3) = a + b + 2 from e3]; omega
    ·omega
  rw [clW_no hk, hk]
  exact ⟨by unfold wv; rw [hiW0, loW0], hb'⟩
theorem Clamp.carried (A : Option Addr) (n c : Nat) (l : List Int) (w : World) (hz : RdW w A n (wds l)) (hi : ∀ x ∈ l, WR x) (hn : n ≤ 9223372036854775807) :
  Calls Tryz.prog 241 #[.slice A n c] w (Ans (wv (carI l)) w) := by
 have HZ := hid hz
 have HL : Hid (l.length = n) := hid (by rw [← wds_length]; exact hz.1)
 have HI := hid hi
 have HN := hid hn
 clear hz hi hn
 go_enter Tryz.func241, Tryz.ntmps241
 go_wp2_with fail
 go_loopg [9] n (fun g i wr => ∃ k : Nat, k ≤ n ∧ g = n - k ∧ i = .int .i64 k ∧ carS (l.take k) ≤ mxW ∧ Vs w [(w.heap.size + 1, [.int .i64 (hiW (carS (l.take k))), .int .u64 (loW (carS (l.take k)))]), (w.heap.size, [.int .i64 0, .int .u64 0])] wr)
 case atStart =>
  refine ⟨0, Nat.zero_le _, by omega, rfl, (by rw [List.take_zero, carS_nil]; decide), Vs.more (Vs.more (Vs.nil (((Below.refl _ _).alloc (Nat.le_refl _) _).alloc (by simp) _)) ((Cs.new2 _ _ _ _).alloc _)) ?_⟩
  have := Cs.new2 (w.alloc (.cells #[.int .i64 0, .int .u64 0] 45)) 45 (.int .i64 0) (.int .u64 0)
  rw [List.take_zero, carS_nil, hiW0, loW0]
  simpa using this
 case round =>
  obtain ⟨k, hk, hg, rfl, hle, hV⟩ := hrel
  have hn' := HN.out
  have HG := hid hg
  have HLE := hid hle
  have V := hid hV
  clear hg hV hle
  by_cases hlt : k < n
  ·obtain ⟨b, off, rfl, hbl, hc⟩ := (HZ.out.below V.out.2).2 k hlt
   obtain ⟨hc0, hc1⟩ := hc k hlt
   have hkl : k < l.length := by have := HL.out; omega
   have HS := hid (carS_take hkl)
   rw [wds_get hkl] at hc0 hc1
   have HX : Hid (WR (l.getD k 0)) := hid (by
    have e : l.getD k 0 = l[k] := by simp [List.getD, hkl]
    rw [e]; exact HI.out _ (List.getElem_mem hkl))
   have HA0 : Hid (0 ≤ carS (l.take k) ∧ WR (carS (l.take k))) := hid (by
    have h1 := carS_nn (l := l.take k) (fun x hx => HI.out x (List.mem_of_mem_take hx))
    have h2 := HLE.out
    unfold mxW at h2
    exact ⟨h1, by unfold WR; omega⟩)
   have HZX := hid (szI_bd HX.out)
   have HZW := hid (szI_wr HX.out)
   have hki : (k : Int) < n := by omega
   clear hkl
   generalize carS (l.take k) = a at *
   generalize l.getD k 0 = x at *
   dsimp only at hc0 hc1
   clear hc
   go_wp2_with fail
   have V1 := hid (Vs.more (V.out.alloc (.cells #[.int .i64 (hiW x), .int .u64 (loW x)] 45)) (Cs.new2 wr 45 (.int .i64 (hiW x)) (.int .u64 (loW x))))
   clear hc0 hc1 V
   generalize wr.alloc (.cells #[.int .i64 (hiW x), .int .u64 (loW x)] 45) = W1 at V1 ⊢
   generalize wr.heap.size = gx at V1 ⊢
   have s0 := (V1.out.at 1 rfl).at0
   have s1 := (V1.out.at 1 rfl).at1
   have x0 := (V1.out.at 0 rfl).at0
   have x1 := (V1.out.at 0 rfl).at1
   go_region_with (first
    | (go_at_call 255; refine (Clamp.size x HX.out _).mono ?_; rintro e w2 ⟨rfl, hb2⟩; have V2 := hid (V1.out.drew.below hb2); clear hb2; have s0 := (V2.out.at 1 rfl).at0; have s1 := (V2.out.at 1 rfl).at1)
    | (go_at_call 190; refine (Wide.ofF (x := 2) (by decide) (by decide) _).mono ?_; rintro e w3 ⟨rfl, hb2⟩; have V3 := hid (V2.out.below hb2); have V4 := hid (V3.out.alloc (.cells #[.int .i64 (hiW a), .int .u64 (loW a), .int .i64 (hiW (szI x)), .int .u64 (loW (szI x)), .int .i64 (hiW 2), .int .u64 (loW 2)] 45)); have HR := hid (RdW.new3 w3 45 a (szI x) 2); clear hb2; have s0 := (V3.out.at 1 rfl).at0; have s1 := (V3.out.at 1 rfl).at1)
    | (go_at_call 254; refine (Wide.sum3 HA0.out.1 HA0.out.2 HZX.out.1 HZW.out _ _ _ HR.out).mono ?_; rintro e w4 ⟨rfl, hb2⟩; have V5 := hid (V4.out.below hb2); clear hb2; have s0 := (V5.out.at 1 rfl).at0; have s1 := (V5.out.at 1 rfl).at1; have s2 := (V5.out.at 1 rfl).fr0; have s3 := (V5.out.at 1 rfl).fr1; have sz := (V5.out.at 1 rfl).lt))
   all_goals
    cases hk : okW (a + szI x + 2) with
    | true =>
     rw [clW_ok hk]
     have HK := hid (okW_iff.1 hk)
     clear hk
     go_wp2_with fail
     go_roundg (n - (k + 1))
     case measure => have := HG.out; omega
     case rel =>
      have e : carS (l.take (k + 1)) = a + szI x + 2 := by have := HS.out; omega
      refine ⟨k + 1, by omega, rfl, by go_num, ?_, ?_⟩
      ·rw [e]; have := HK.out; unfold WR at this; unfold mxW; omega
      ·rw [e]
       exact Vs.more (Vs.more (Vs.nil ((V5.out.2.setCell (by simp) _).setCell (by simp) _)) (((V5.out.at 2 rfl).far (by omega) _ _).far (by omega) _ _)) ((V5.out.at 1 rfl).put2 _ _)
    | false =>
     have HK : Hid (carI l = mxW) := hid (carI_stop (k := k + 1) HI.out (by
      have h1 := HS.out
      have h2 := okW_no hk
      have h3 := HA0.out.1
      have h4 := HZX.out.1
      unfold WR at h2
      unfold mxW
      omega))
     rw [clW_no hk]
     clear hk
     go_wp2_with fail
     refine (Clamp.greatest _).mono ?_
     rintro e w5 ⟨rfl, hb5⟩
     have V6 : Hid (Vs w [(w.heap.size, [.int .i64 0, .int .u64 0])] w5) := hid (Vs.below (Vs.more (Vs.nil ((V5.out.2.setCell (by simp) _).setCell (by simp) _)) (((V5.out.at 2 rfl).far (by omega) _ _).far (by omega) _ _)) hb5)
     clear hb5
     have r0 := (V6.out.at 0 rfl).at0
     have r1 := (V6.out.at 0 rfl).at1
     have r2 := (V6.out.at 0 rfl).fr0
     have r3 := (V6.out.at 0 rfl).fr1
     go_wp2_with fail
     refine bodyPost_ret (v := wv mxW) (by simp [results, Tryz.results241, go_sem, r0, r1]) rfl ⟨by rw [HK.out], ?_⟩
     exact (V6.out.2.setCell (by simp) _).setCell (by simp) _
  ·have e : l.take k = l := List.take_of_length_le (by have := HL.out; omega)
   have hki : ¬ (k : Int) < n := by omega
   have E : Hid (carI l = carS l) := hid (carI_go (by have := HLE.out; rwa [e] at this))
   rw [e] at V
   have r0 := (V.out.at 1 rfl).at0
   have r1 := (V.out.at 1 rfl).at1
   have t0 := (V.out.at 0 rfl).at0
   have t1 := (V.out.at 0 rfl).at1
   have r2 := (V.out.at 1 rfl).fr0
   have r3 := (V.out.at 1 rfl).fr1
   clear e
   go_wp2_with fail
   refine bodyPost_ret (v := wv (carS l)) (by simp [results, Tryz.results241, go_sem, r0, r1]) rfl ⟨by rw [E.out], ?_⟩
   exact (V.out.2.setCell (by simp) _).setCell (by simp) _
end


section
open Go.ChangeShapes Go.WideShapes Go.ChangeAt Go.RowKit Go.Joins Go.Deep
theorem cellsU64R : Tryz.prog.cellsOf 22 = 1 := by kernel_rfl
theorem cellsBoolR : Tryz.prog.cellsOf 4 = 1 := by kernel_rfl
theorem cellsReqR : Tryz.prog.cellsOf 53 = 10 := by kernel_rfl
theorem req_cells {H : Type} {enc : TypeId × Value → H} {W : World} {base : Nat} {spare : Nat → Bool} {held : Bool} {fuel : Nat} {u0 u1 u2 u3 u4 u5 u6 u7 u8 u9 : Value} {x : DataW H × List MemPlace}
  (h : DataW.trod enc Tryz.prog W base spare held fuel 53 [u0, u1, u2, u3, u4, u5, u6, u7, u8, u9] = some x) :
  ∃ r : Rq, [u0, u1, u2, u3, u4, u5, u6, u7, u8, u9] = r.cells ∧ r.In := by
 obtain ⟨xs, k, hk, hxy, _, hxl, hf⟩ := DataW.trod_struct Tryz.underlying53 h
 match xs, hxl with
 | [y0, y1, y2, y3], _ =>
  have g0 := hf 0 _ rfl
  have g1 := hf 1 _ rfl
  have g2 := hf 2 _ rfl
  have g3 := hf 3 _ rfl
  simp [cellsItemI, cellsU64R, cellsBoolR] at g0 g1 g2 g3
  obtain ⟨a, e0, ha⟩ := item_cells g0
  obtain ⟨l, e1, _, w1⟩ := DataW.trod_int Tryz.underlying22 g1
  obtain ⟨s, e2, _, w2⟩ := DataW.trod_int Tryz.underlying22 g2
  obtain ⟨z, e3, _⟩ := DataW.trod_bool Tryz.underlying4 g3
  simp at e1 e2 e3
  simp [It.cells] at e0
  obtain ⟨q0, q1, q2, q3, q4, q5, q6⟩ := e0
  exact ⟨⟨a, l, s, z⟩, by simp [Rq.cells, q0, q1, q2, q3, q4, q5, q6, e1, e2, e3], ha, bounds_u64 w1, bounds_u64 w2⟩
set_option maxRecDepth 100000 in
theorem open_req {H : Type} {enc : TypeId × Value → H} {W : World} {base b0 : Nat} {spare : Nat → Bool} {held : Bool} {r : Reach} {v : Value} {d : DataW H} {p : List MemPlace}
  (hv : Value.okWide Tryz.prog W r b0 53 v) (h : DataW.Trod enc Tryz.prog W base spare held 53 v d p) :
  ∃ r : Rq, v = r.val ∧ r.In := by
 obtain ⟨cs, rfl, hsz⟩ := okWide_struct Tryz.underlying53 hv
 obtain ⟨l⟩ := cs
 match l, hsz.trans cellsReqR with
 | [u0, u1, u2, u3, u4, u5, u6, u7, u8, u9], _ =>
  obtain ⟨fuel, hf⟩ := h
  obtain ⟨a, e, ha⟩ := req_cells hf
  refine ⟨a, ?_, ha⟩
  have e' : ([u0, u1, u2, u3, u4, u5, u6, u7, u8, u9] : List Value).toArray = a.cells.toArray := congrArg List.toArray e
  exact congrArg Value.agg e'
end

end Go.Proofs.YtjndmmcjobbcbaaGreatDoor

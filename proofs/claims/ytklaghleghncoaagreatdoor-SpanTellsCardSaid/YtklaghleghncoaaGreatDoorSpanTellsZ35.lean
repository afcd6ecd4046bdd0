/- Texts of SpanTells's proof, together. -/
import Derived.Test.YtklaghleghncoaaGreatDoorSpanTellsZ33
import Derived.Test.YtklaghleghncoaaGreatDoorSpanTellsZ22
import Derived.Test.YtklaghleghncoaaGreatDoorSpanTellsZ27
import Derived.Deep.SlicePairs
import Derived.Test.YtklaghleghncoaaGreatDoorSpanTellsZ10
import Derived.Test.YtklaghleghncoaaGreatDoorSpanTellsZ26
import Derived.Test.YtklaghleghncoaaGreatDoorSpanTellsZ25
import Derived.Test.YtklaghleghncoaaGreatDoorSpanTellsZ7
import Derived.Deep.RegionWith
namespace Go.Proofs.YtklaghleghncoaaGreatDoor
/- PosFloors: the walk. -/
section
open Go.RowKit
/-- Two variables of type Big, and their numbers. -/
def LH (w0 : World) (g h : Nat) (s1 : Bool) (A1 : Option Addr) (n1 c1 : Nat) (x : Int) (s2 : Bool) (A2 : Option Addr) (n2 c2 : Nat) (y : Int) (w : World) : Prop :=
  Var w g s1 A1 n1 c1 ∧ Var w h s2 A2 n2 c2 ∧ IsB w 70 s1 A1 n1 c1 x ∧ IsB w 70 s2 A2 n2 c2 y ∧ Below w0.heap.size w0 w
theorem LH.below {w0 : World} {g h : Nat} {s1 : Bool} {A1 : Option Addr} {n1 c1 : Nat} {x : Int} {s2 : Bool} {A2 : Option Addr} {n2 c2 : Nat} {y : Int} {w w' : World} (k : LH w0 g h s1 A1 n1 c1 x s2 A2 n2 c2 y w) (hb : Below w.heap.size w w') :
    LH w0 g h s1 A1 n1 c1 x s2 A2 n2 c2 y w' := ⟨k.1.below hb, k.2.1.below hb, k.2.2.1.below hb, k.2.2.2.1.below hb, below_keep k.2.2.2.2 hb⟩
theorem LH.alloc {w0 : World} {g h : Nat} {s1 : Bool} {A1 : Option Addr} {n1 c1 : Nat} {x : Int} {s2 : Bool} {A2 : Option Addr} {n2 c2 : Nat} {y : Int} {w : World} (k : LH w0 g h s1 A1 n1 c1 x s2 A2 n2 c2 y w) (ob : Obj) :
    LH w0 g h s1 A1 n1 c1 x s2 A2 n2 c2 y (w.alloc ob) := k.below ((Below.refl _ _).alloc (Nat.le_refl _) ob)
theorem LH.drew {w0 : World} {g h : Nat} {s1 : Bool} {A1 : Option Addr} {n1 c1 : Nat} {x : Int} {s2 : Bool} {A2 : Option Addr} {n2 c2 : Nat} {y : Int} {w : World} (k : LH w0 g h s1 A1 n1 c1 x s2 A2 n2 c2 y w) :
    LH w0 g h s1 A1 n1 c1 x s2 A2 n2 c2 y w.drew := ⟨k.1.drew, k.2.1.drew, k.2.2.1.drew, k.2.2.2.1.drew, k.2.2.2.2.drew⟩
theorem LH.put1 {w0 : World} {g h : Nat} {s1 : Bool} {A1 : Option Addr} {n1 c1 : Nat} {x : Int} {s2 : Bool} {A2 : Option Addr} {n2 c2 : Nat} {y : Int} {w : World} (k : LH w0 g h s1 A1 n1 c1 x s2 A2 n2 c2 y w) (gh : g ≠ h) (hg : w0.heap.size ≤ g)
    {s : Bool} {A : Option Addr} {n c : Nat} {z : Int} (hz : IsB w 70 s A n c z) : LH w0 g h s A n c z s2 A2 n2 c2 y ((w.setCell ⟨g, 0, none⟩ (.bool s)).setCell ⟨g, 1, none⟩ (.slice A n c)) :=
  ⟨k.1.store _ _ _ _, k.2.1.far gh _ _ _ _, hz.storeV k.1 _ _ _ _, k.2.2.2.1.storeV k.1 _ _ _ _, (k.2.2.2.2.setCell hg _).setCell hg _⟩
theorem LH.put2 {w0 : World} {g h : Nat} {s1 : Bool} {A1 : Option Addr} {n1 c1 : Nat} {x : Int} {s2 : Bool} {A2 : Option Addr} {n2 c2 : Nat} {y : Int} {w : World} (k : LH w0 g h s1 A1 n1 c1 x s2 A2 n2 c2 y w) (gh : g ≠ h) (hg : w0.heap.size ≤ h)
    {s : Bool} {A : Option Addr} {n c : Nat} {z : Int} (hz : IsB w 70 s A n c z) : LH w0 g h s1 A1 n1 c1 x s A n c z ((w.setCell ⟨h, 0, none⟩ (.bool s)).setCell ⟨h, 1, none⟩ (.slice A n c)) :=
  ⟨k.1.far (Ne.symm gh) _ _ _ _, k.2.1.store _ _ _ _, k.2.2.1.storeV k.2.1 _ _ _ _, hz.storeV k.2.1 _ _ _ _, (k.2.2.2.2.setCell hg _).setCell hg _⟩
theorem LH.see {w0 : World} {g h : Nat} {s1 : Bool} {A1 : Option Addr} {n1 c1 : Nat} {x : Int} {s2 : Bool} {A2 : Option Addr} {n2 c2 : Nat} {y : Int} {w : World} (k : LH w0 g h s1 A1 n1 c1 x s2 A2 n2 c2 y w) :
    (w.cell? ⟨g, 0, none⟩ = some (.bool s1) ∧ w.cell? ⟨g, 1, none⟩ = some (.slice A1 n1 c1) ∧ w.cell? ⟨h, 0, none⟩ = some (.bool s2) ∧ w.cell? ⟨h, 1, none⟩ = some (.slice A2 n2 c2)) ∧ LH w0 g h s1 A1 n1 c1 x s2 A2 n2 c2 y w :=
  ⟨⟨k.1.1, k.1.2.1, k.2.1.1, k.2.1.2.1⟩, k⟩
end

/- The contract of wide.Sum; WideSums: the walk. -/
section
open Go.RowKit
/-- All together, or that a sum on the way isn't a wide number. -/
def SumR (ps : List (Int × Int)) (h l : Int) (ok : Bool) : Prop :=
  (ok = true ∧ (∀ j, j ≤ ps.length → WR (sumZ (ps.take j))) ∧ IsW h l (sumZ ps)) ∨ (ok = false ∧ h = 0 ∧ l = 0 ∧ ∃ j, j ≤ ps.length ∧ ¬ WR (sumZ (ps.take j)))
def SumAns (ps : List (Int × Int)) (w : World) (e : Ending) (w' : World) : Prop :=
  ∃ (h l : Int) (ok : Bool), e = .returned (.tuple #[.agg #[.int .i64 h, .int .u64 l], .bool ok]) ∧ SumR ps h l ok ∧ Below w.heap.size w w'
set_option maxRecDepth 100000 in
set_option maxHeartbeats 4000000 in
theorem Wide.sum (A : Option Addr) (n c : Nat) (ps : List (Int × Int)) (w : World) (hz : RdW w A n ps) (hi : AllW ps) (hn : n ≤ 100) :
    Calls Tryz.prog 65 #[.slice A n c] w (SumAns ps w) := by
  have HZ := hid hz
  have HL := hid hz.1
  have HI := hid hi
  clear hz hi
  go_enter Tryz.func65, Tryz.ntmps65
  go_wp2_with fail
  go_loopg [10] n (fun g i wr => ∃ (k : Nat) (h l : Int), k ≤ n ∧ g = n - k ∧ i = .int .i64 k ∧ Hid (IsW h l (sumZ (ps.take k)) ∧ ∀ j, j ≤ k → WR (sumZ (ps.take j))) ∧ Vs w [(w.heap.size + 1, [.int .i64 h, .int .u64 l]), (w.heap.size, [.int .i64 0, .int .u64 0])] wr)
  case atStart =>
    refine ⟨0, 0, 0, Nat.zero_le _, by omega, rfl, hid ⟨by simpa [sumZ] using isW_0, fun j hj => ?_⟩, Vs.more (Vs.more (Vs.nil (((Below.refl _ _).alloc (Nat.le_refl _) _).alloc (by simp) _)) ((Cs.new2 _ _ _ _).alloc _)) (by have := Cs.new2 (w.alloc (.cells #[.int .i64 0, .int .u64 0] 34)) 34 (.int .i64 0) (.int .u64 0); simpa using this)⟩
    obtain rfl : j = 0 := by omega
    exact isW_0.wr
  case round =>
    obtain ⟨k, h, l, hk, hg, rfl, hx, hV⟩ := hrel
    have HG := hid hg
    have V := hid hV
    have s0 := (hV.at 0 rfl).at0
    have s1 := (hV.at 0 rfl).at1
    have s2 := (hV.at 0 rfl).fr0
    have s3 := (hV.at 0 rfl).fr1
    have sz := (hV.at 0 rfl).lt
    clear hg hV
    by_cases hlt : k < n
    · obtain ⟨b, off, rfl, hbl, hc⟩ := (HZ.out.below V.out.2).2 k hlt
      obtain ⟨hc0, hc1⟩ := hc k hlt
      have HS := hid (sumZ_take ps (k := k) (by have := HL.out; omega))
      have HQ := hid (HI.out.get (k := k) (by have := HL.out; omega))
      generalize ps.getD k (0, 0) = z at *
      obtain ⟨z0, z1⟩ := z
      dsimp only at hc0 hc1
      clear hc
      go_wp2_with fail
      refine (Wide.add h l z0 z1 _ _ hx.out.1 HQ.out _).mono ?_
      rintro e w2 ⟨h2, l2, ok2, rfl, hr2, hb2⟩
      rw [← HS.out] at hr2
      have V2 := hid (Vs.below (V.out.alloc (.cells #[.int .i64 z0, .int .u64 z1] 34)) hb2)
      have R2 := hid hr2
      clear hb2 hr2 s0 s1 s2 s3 sz V hc0 hc1
      have s0 := (V2.out.at 0 rfl).at0
      have s1 := (V2.out.at 0 rfl).at1
      have s2 := (V2.out.at 0 rfl).fr0
      have s3 := (V2.out.at 0 rfl).fr1
      have r0 := (V2.out.at 1 rfl).at0
      have r1 := (V2.out.at 1 rfl).at1
      have r2 := (V2.out.at 1 rfl).fr0
      have r3 := (V2.out.at 1 rfl).fr1
      rcases R2.out with ⟨rfl, g1, g2⟩ | ⟨rfl, g1, rfl, rfl⟩
      · have G1 := hid g1
        have G2 := hid g2
        clear g1 g2 R2
        go_wp2_with fail
        go_roundg (n - (k + 1))
        case measure => have := HG.out; omega
        case rel =>
          refine ⟨k + 1, h2, l2, by omega, rfl, by go_num, hid ⟨G2.out, fun j hj => ?_⟩, ?_⟩
          · rcases Nat.lt_or_ge k j with hjk | hjk
            · obtain rfl : j = k + 1 := by omega
              exact G1.out
            · exact hx.out.2 j hjk
          · exact Vs.more (Vs.more (Vs.nil ((V2.out.2.setCell (by simp) _).setCell (by simp) _)) (((V2.out.at 1 rfl).far (by omega) _ _).far (by omega) _ _)) ((V2.out.at 0 rfl).put2 _ _)
      · have G1 := hid g1
        clear g1 R2
        go_wp2_with fail
        refine bodyPost_ret (v := .tuple #[.agg #[.int .i64 0, .int .u64 0], .bool false]) (by simp [results, Tryz.results65, go_sem, r0, r1]) rfl ⟨_, _, _, rfl, .inr ⟨rfl, rfl, rfl, k + 1, by have := HL.out; omega, G1.out⟩, ?_⟩
        refine Below.setCell ?_ (by simp) _
        refine Below.setCell ?_ (by simp) _
        refine Below.setCell ?_ (by simp) _
        exact V2.out.2.setCell (by simp) _
    · have e : ps.take k = ps := List.take_of_length_le (by have := HL.out; omega)
      have r0 := (V.out.at 1 rfl).at0
      have r1 := (V.out.at 1 rfl).at1
      have r2 := (V.out.at 1 rfl).fr0
      have r3 := (V.out.at 1 rfl).fr1
      have hx2 := hx.out
      rw [e] at hx2
      have HX := hid hx2
      have KN := hid (show ps.length ≤ k by have := HL.out; omega)
      clear e hx hx2
      go_wp2_with fail
      refine bodyPost_ret (v := .tuple #[.agg #[.int .i64 h, .int .u64 l], .bool true]) (by simp [results, Tryz.results65, go_sem, r0, r1]) rfl ⟨_, _, _, rfl, .inl ⟨rfl, fun j hj => HX.out.2 j (by have := KN.out; omega), HX.out.1⟩, ?_⟩
      exact (V.out.2.setCell (by simp) _).setCell (by simp) _
end

end Go.Proofs.YtklaghleghncoaaGreatDoor

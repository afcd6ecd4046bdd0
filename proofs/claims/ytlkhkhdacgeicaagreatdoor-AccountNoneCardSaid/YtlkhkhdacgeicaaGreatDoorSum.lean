/- The contract of wide.Sum; WideSums: the walk. -/
import Derived.Test.YtlkhkhdacgeicaaGreatDoorOpenW
import Derived.Test.YtlkhkhdacgeicaaGreatDoorAccountNoneZ14
import Derived.Test.YtlkhkhdacgeicaaGreatDoorBits
import Derived.Test.YtlkhkhdacgeicaaGreatDoorAccountNoneZ5
import Derived.Test.YtlkhkhdacgeicaaGreatDoorAccountNoneZ11
import Derived.Deep.RegionWith
import Derived.Deep.LoopGhost
import Derived.Deep.QuietTactic
import Derived.BigQuiet
import Derived.Laws.OwnMore
import Derived.Deep.AppendLies
import Derived.Deep.RegionHeld3
import Derived.OwnWalk
import Derived.Deep.CutBlock
import Derived.Deep.DeepCutAuto
namespace Go.Proofs.YtlkhkhdacgeicaaGreatDoor
open Go.RowKit
/-- All together, or that a sum on the way isn't a wide number. -/
def SumR (ps : List (Int × Int)) (h l : Int) (ok : Bool) : Prop :=
  (ok = true ∧ (∀ j, j ≤ ps.length → WR (sumZ (ps.take j))) ∧ IsW h l (sumZ ps)) ∨ (ok = false ∧ h = 0 ∧ l = 0 ∧ ∃ j, j ≤ ps.length ∧ ¬ WR (sumZ (ps.take j)))
def SumAns (ps : List (Int × Int)) (w : World) (e : Ending) (w' : World) : Prop :=
  ∃ (h l : Int) (ok : Bool), e = .returned (.tuple #[.agg #[.int .i64 h, .int .u64 l], .bool ok]) ∧ SumR ps h l ok ∧ Below w.heap.size w w'
set_option maxRecDepth 100000 in
set_option maxHeartbeats 4000000 in
theorem Wide.sum (A : Option Addr) (n c : Nat) (ps : List (Int × Int)) (w : World) (hz : RdW w A n ps) (hi : AllW ps) (hn : n ≤ 100) :
    Calls Tryz.prog 200 #[.slice A n c] w (SumAns ps w) := by
  have HZ := hid hz
  have HL := hid hz.1
  have HI := hid hi
  clear hz hi
  go_enter Tryz.func200, Tryz.ntmps200
  go_wp2_with fail
  go_loopg [10] n (fun g i wr => ∃ (k : Nat) (h l : Int), k ≤ n ∧ g = n - k ∧ i = .int .i64 k ∧ Hid (IsW h l (sumZ (ps.take k)) ∧ ∀ j, j ≤ k → WR (sumZ (ps.take j))) ∧ Vs w [(w.heap.size + 1, [.int .i64 h, .int .u64 l]), (w.heap.size, [.int .i64 0, .int .u64 0])] wr)
  case atStart =>
    refine ⟨0, 0, 0, Nat.zero_le _, by omega, rfl, hid ⟨by simpa [sumZ] using isW_0, fun j hj => ?_⟩, Vs.more (Vs.more (Vs.nil (((Below.refl _ _).alloc (Nat.le_refl _) _).alloc (by simp) _)) ((Cs.new2 _ _ _ _).alloc _)) (by have := Cs.new2 (w.alloc (.cells #[.int .i64 0, .int .u64 0] 29)) 29 (.int .i64 0) (.int .u64 0); simpa using this)⟩
    obtain rfl : j = 0 := by omega
    exact isW_0.wr
  case round =>
    obtain ⟨k, h, l, hk, hg, rfl, hx, hV⟩ := hrel
    have HG := hid hg
    have V := hid hV
    have s0 := (hV.at 0 rfl).at0
    have s1 := (hV.at 0 rfl).at1
    have s2 := (hV.at 0 rfl).fr0
    have s3 := (hV.at 0 rfl).fr1
    have sz := (hV.at 0 rfl).lt
    clear hg hV
    by_cases hlt : k < n
    · obtain ⟨b, off, rfl, hbl, hc⟩ := (HZ.out.below V.out.2).2 k hlt
      obtain ⟨hc0, hc1⟩ := hc k hlt
      have HS := hid (sumZ_take ps (k := k) (by have := HL.out; omega))
      have HQ := hid (HI.out.get (k := k) (by have := HL.out; omega))
      generalize ps.getD k (0, 0) = z at *
      obtain ⟨z0, z1⟩ := z
      dsimp only at hc0 hc1
      clear hc
      go_wp2_with fail
      refine (Wide.add h l z0 z1 _ _ hx.out.1 HQ.out _).mono ?_
      rintro e w2 ⟨h2, l2, ok2, rfl, hr2, hb2⟩
      rw [← HS.out] at hr2
      have V2 := hid (Vs.below (V.out.alloc (.cells #[.int .i64 z0, .int .u64 z1] 29)) hb2)
      have R2 := hid hr2
      clear hb2 hr2 s0 s1 s2 s3 sz V hc0 hc1
      have s0 := (V2.out.at 0 rfl).at0
      have s1 := (V2.out.at 0 rfl).at1
      have s2 := (V2.out.at 0 rfl).fr0
      have s3 := (V2.out.at 0 rfl).fr1
      have r0 := (V2.out.at 1 rfl).at0
      have r1 := (V2.out.at 1 rfl).at1
      have r2 := (V2.out.at 1 rfl).fr0
      have r3 := (V2.out.at 1 rfl).fr1
      rcases R2.out with ⟨rfl, g1, g2⟩ | ⟨rfl, g1, rfl, rfl⟩
      · have G1 := hid g1
        have G2 := hid g2
        clear g1 g2 R2
        go_wp2_with fail
        go_roundg (n - (k + 1))
        case measure => have := HG.out; omega
        case rel =>
          refine ⟨k + 1, h2, l2, by omega, rfl, by go_num, hid ⟨G2.out, fun j hj => ?_⟩, ?_⟩
          · rcases Nat.lt_or_ge k j with hjk | hjk
            · obtain rfl : j = k + 1 := by omega
              exact G1.out
            · exact hx.out.2 j hjk
          · exact Vs.more (Vs.more (Vs.nil ((V2.out.2.setCell (by simp) _).setCell (by simp) _)) (((V2.out.at 1 rfl).far (by omega) _ _).far (by omega) _ _)) ((V2.out.at 0 rfl).put2 _ _)
      · have G1 := hid g1
        clear g1 R2
        go_wp2_with fail
        refine bodyPost_ret (v := .tuple #[.agg #[.int .i64 0, .int .u64 0], .bool false]) (by simp [results, Tryz.results200, go_sem, r0, r1]) rfl ⟨_, _, _, rfl, .inr ⟨rfl, rfl, rfl, k + 1, by have := HL.out; omega, G1.out⟩, ?_⟩
        refine Below.setCell ?_ (by simp) _
        refine Below.setCell ?_ (by simp) _
        refine Below.setCell ?_ (by simp) _
        exact V2.out.2.setCell (by simp) _
    · have e : ps.take k = ps := List.take_of_length_le (by have := HL.out; omega)
      have r0 := (V.out.at 1 rfl).at0
      have r1 := (V.out.at 1 rfl).at1
      have r2 := (V.out.at 1 rfl).fr0
      have r3 := (V.out.at 1 rfl).fr1
      have hx2 := hx.out
      rw [e] at hx2
      have HX := hid hx2
      have KN := hid (show ps.length ≤ k by have := HL.out; omega)
      clear e hx hx2
      go_wp2_with fail
      refine bodyPost_ret (v := .tuple #[.agg #[.int .i64 h, .int .u64 l], .bool true]) (by simp [results, Tryz.results200, go_sem, r0, r1]) rfl ⟨_, _, _, rfl, .inl ⟨rfl, fun j hj => HX.out.2 j (by have := KN.out; omega), HX.out.1⟩, ?_⟩
      exact (V.out.2.setCell (by simp) _).setCell (by simp) _
end Go.Proofs.YtlkhkhdacgeicaaGreatDoor

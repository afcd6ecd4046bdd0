/- RbtreeDepth: the walk. -/
import Derived.Test.YtmomigklglnmkaaRbtreeSortsZ11
import Derived.Test.YtmomigklglnmkaaOpenN
import Derived.Test.YtmomigklglnmkaaCs
import Derived.Deep.SlicePairs
namespace Go.Proofs.Ytmomigklglnmkaa
open Go.RowKit
/-- A tree while a law goes on. -/
def Gw (w : World) (th : Nat) (t : Tr Int) (w' : World) : Prop := Grove w.heap.size th t w' ∧ Below w.heap.size w w'
theorem Gw.below {w w1 w2 : World} {th : Nat} {t : Tr Int} (h : Gw w th t w1) (hb : Below w1.heap.size w1 w2) : Gw w th t w2 := ⟨h.1.below hb, below_on h.2 hb⟩
theorem Gw.act {w w1 w2 : World} {th : Nat} {t t' : Tr Int} (h : Gw w th t w1) (hg : Grove w.heap.size th t' w2) (hc : Chg (th :: t.blocks) w1 w2) : Gw w th t' w2 :=
  ⟨hg, h.2.trans (hc.toBelow h.2.size (fun g hg => by
    rcases List.mem_cons.1 hg with rfl | h1
    · exact h.1.2.2.2.1
    · exact h.1.2.2.2.2 g h1))⟩
/-- What the test of the depth reckons. -/
theorem depth_nums (d l : Nat) (hd : d ≤ 301) (hl : l ≤ 301) (h : 2 ^ ((d + 1) / 2) ≤ l + 1) : ∃ M P : Int, IntKind.i64.wrap ((d : Int) + 1) = (d : Int) + 1 ∧ IntKind.i64.wrap (((d : Int) + 1).tdiv 2) = M ∧ 0 ≤ M ∧ M ≤ 64 ∧ IntKind.i64.wrap (2 ^ M.toNat) = P ∧ decide ((l : Int) + 1 < P) = false ∧ IntKind.i64.wrap ((l : Int) + 1) = (l : Int) + 1 := by
  have hm : (d + 1) / 2 ≤ 9 := by
    rcases Nat.lt_or_ge 9 ((d + 1) / 2) with h1 | h1
    · have : 2 ^ 10 ≤ 2 ^ ((d + 1) / 2) := Nat.pow_le_pow_right (by omega) h1
      omega
    · exact h1
  have e : ((d : Int) + 1).tdiv 2 = (((d + 1) / 2 : Nat) : Int) := by rw [Int.tdiv_eq_ediv_of_nonneg (by omega)]; omega
  have hp : ((2 ^ ((d + 1) / 2) : Nat) : Int) = (2 : Int) ^ ((d + 1) / 2) := by simp
  refine ⟨(((d + 1) / 2 : Nat) : Int), (2 : Int) ^ ((d + 1) / 2), by rw [IntKind.wrap_i64]; omega, by rw [e, IntKind.wrap_i64]; omega, by omega, by omega, ?_, ?_, by rw [IntKind.wrap_i64]; omega⟩
  · have hpos : (0 : Int) ≤ ((2 ^ ((d + 1) / 2) : Nat) : Int) := Int.natCast_nonneg _
    rw [Int.toNat_natCast, ← hp, IntKind.wrap_i64]; omega
  · rw [decide_eq_false_iff_not, ← hp]; omega
end Go.Proofs.Ytmomigklglnmkaa

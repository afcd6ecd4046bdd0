/- A table of one's own, by its places: what each call does, one way. -/
import Derived.Test.YtegohmeapamoaaaGreatDoorTableLeastZ22
import Derived.Test.YtegohmeapamoaaaGreatDoorRbN
import Derived.Test.YtegohmeapamoaaaGreatDoorRdu
namespace Go.Proofs.YtegohmeapamoaaaGreatDoor
open Go.RowKit
/-- A table of one's own. -/
structure TV (w : World) (th : Nat) (A : Option Addr) (n c : Nat) (L : List Tk) (W : World) : Prop where
  t : TAt W w.heap.size th A n c L
  b : Below w.heap.size w W
theorem TV.below {w W W' : World} {th : Nat} {A : Option Addr} {n c : Nat} {L : List Tk} (h : TV w th A n c L W) (hb : Below W.heap.size W W') : TV w th A n c L W' := ⟨h.t.below hb, below_on h.b hb⟩
theorem TV.put {w W W' : World} {th : Nat} {A : Option Addr} {n c : Nat} {L M : List Tk} {v : Value} {e : Ending} (h : TV w th A n c L W) (hp : Putted w.heap.size A n c M v W e W') : TV w th A n c M W' :=
  ⟨hp.tat h.t, h.b.trans (hp.2.2.toBelow h.b.size (fun g hg => (h.t.row.rowGe g hg).1))⟩
theorem TV.far {w W W2 : World} {th : Nat} {A : Option Addr} {n c : Nat} {L : List Tk} (h : TV w th A n c L W) (h2 : TV w th A n c L W2) {g : Nat} (hg : W.heap.size ≤ g) (o : Nat) (u : Value) : TV w th A n c L (W2.setCell ⟨g, o, none⟩ u) := by
  have hth : th < W.heap.size := World.block_lt_of_cell? W _ (h.t.cs 0 _ rfl).1
  have hc : Chg [g] W2 (W2.setCell ⟨g, o, none⟩ u) := (Chg.refl [g] W2).set (Or.inl (by simp)) o u
  refine ⟨h2.t.chg hc (fun j hj hm => ?_) (by simp; omega), h2.b.setCell (Nat.le_trans h.b.size hg) u⟩
  simp at hm
  subst hm
  have := (h.t.row.rowGe j hj).2
  omega
def dropL (L : List Tk) (id : Int) : List Tk := match tfind L id with
  | some j => L.set j Tk.zero
  | none => L
def dropE (L : List Tk) (id : Int) : Int := match tfind L id with
  | some _ => 0
  | none => 4
def taskX (L : List Tk) (id : Int) : Tk := match tfind L id with
  | some j => L.getD j Tk.zero
  | none => Tk.zero
def addL (L : List Tk) (x : Tk) : List Tk := if x.ok = true then if lf L 0 = 0 then L else L.set (lf L 0 - 1).toNat { x with i := lf L 0 } else L
def addI (L : List Tk) (x : Tk) : Int := if x.ok = true then lf L 0 else 0
def addE (L : List Tk) (x : Tk) : Int := if x.ok = true then if lf L 0 = 0 then 7 else 0 else 2
theorem Tab.dropV {w W : World} {th : Nat} {A : Option Addr} {n c : Nat} {L : List Tk} (h : TV w th A n c L W) (id : Int) : Calls Tryz.prog 36 #[.pointer (some ⟨th, 0, none⟩), .int .i64 id] W fun e W' => e = .returned (.int .i64 (dropE L id)) ∧ TV w th A n c (dropL L id) W' ∧ Chg (rowOf A) W W' := by
  unfold dropE dropL
  cases hf : tfind L id with
  | some j =>
    refine (Tab.drop_yes _ th A n c L id j W h.t hf).mono ?_
    intro e W' hp
    exact ⟨hp.1, h.put hp, hp.2.2⟩
  | none =>
    refine (Tab.drop_no _ th A n c L id W h.t hf).mono ?_
    rintro e W' ⟨rfl, hb⟩
    exact ⟨rfl, h.below hb, Chg.below hb⟩
theorem Tab.addV {w W : World} {th : Nat} {A : Option Addr} {n c : Nat} {L : List Tk} (h : TV w th A n c L W) (x : Tk) : Calls Tryz.prog 39 #[.pointer (some ⟨th, 0, none⟩), x.val] W fun e W' => e = .returned (.tuple #[.int .i64 (addI L x), .int .i64 (addE L x)]) ∧ TV w th A n c (addL L x) W' ∧ Chg (rowOf A) W W' := by
  unfold addI addE addL
  by_cases hx : x.ok = true
  · rw [if_pos hx, if_pos hx, if_pos hx]
    have hl := h.t.len
    rcases lf_spec L with ⟨h1, h2⟩ | ⟨j, h1, h2, h3, h4⟩
    · rw [h1, if_pos rfl, if_pos rfl]
      refine (Tab.add_full _ th A n c L x W hx h.t (fun j hj => h2 j (by omega))).mono ?_
      rintro e W' ⟨rfl, hb⟩
      exact ⟨rfl, h.below hb, Chg.below hb⟩
    · have hne : ¬ lf L 0 = 0 := by omega
      rw [if_neg hne, if_neg hne]
      have e1 : (lf L 0 - 1).toNat = j := by omega
      rw [e1, h2]
      refine (Tab.add_yes _ th A n c L x j W hx h.t (by omega) h4 h3).mono ?_
      intro e W' hp
      exact ⟨hp.1, h.put hp, hp.2.2⟩
  · rw [if_neg hx, if_neg hx, if_neg hx]
    refine (Tab.add_bad 0 th A n c L x W (by simpa using hx)).mono ?_
    rintro e W' ⟨rfl, hb⟩
    exact ⟨rfl, h.below hb, Chg.below hb⟩
theorem Tab.taskV {W : World} {base th : Nat} {A : Option Addr} {n c : Nat} {L : List Tk} (h : TAt W base th A n c L) (id : Int) : Calls Tryz.prog 42 #[.pointer (some ⟨th, 0, none⟩), .int .i64 id] W (Ans (.tuple #[(taskX L id).val, .int .i64 (dropE L id)]) W) := by
  unfold dropE taskX
  cases hf : tfind L id with
  | some j => exact Tab.task_yes _ th A n c L id j _ W h hf rfl
  | none => exact Tab.task_no _ th A n c L id W h hf
end Go.Proofs.YtegohmeapamoaaaGreatDoor

/- Texts of TablePlays's proof, together. -/
import Derived.Test.YtegohmeapamoaaaGreatDoorGr
import Derived.Test.YtegohmeapamoaaaGreatDoorTablePlaysZ25
namespace Go.Proofs.YtegohmeapamoaaaGreatDoor
/- A table's tasks: as numbers, in memory; the small functions. -/
section
open Go.RowKit
/-- A task, in whole numbers: ID, state, core, weight, slice, lag. -/
structure Tk where
  i : Int
  s : Int
  c : Int
  w : Int
  n : Int
  l : Int
def Tk.cells (x : Tk) : List Value := [.int .i64 x.i, .int .u8 x.s, .int .i64 x.c, .int .u32 x.w, .int .u64 x.n, .int .i64 x.l]
abbrev Tk.val (x : Tk) : Value := .agg #[.int .i64 x.i, .int .u8 x.s, .int .i64 x.c, .int .u32 x.w, .int .u64 x.n, .int .i64 x.l]
abbrev Tk.zero : Tk := ⟨0, 0, 0, 0, 0, 0⟩
theorem Tk.len (x : Tk) : x.cells.length = 6 := rfl
theorem Tk.one (x : Tk) : ∀ v ∈ x.cells, v.oneCell' = true := by simp [Tk.cells, Value.oneCell']
theorem infoTask : (Tryz.prog.info? 60).map (·.size) = some 6 := by kernel_rfl
theorem Tk.at {w : World} {g : Nat} (x : Tk) (h : Cs w g x.cells) : w.cell? ⟨g, 0, none⟩ = some (.int .i64 x.i) ∧ w.cell? ⟨g, 1, none⟩ = some (.int .u8 x.s) ∧ w.cell? ⟨g, 2, none⟩ = some (.int .i64 x.c) ∧ w.cell? ⟨g, 3, none⟩ = some (.int .u32 x.w) ∧ w.cell? ⟨g, 4, none⟩ = some (.int .u64 x.n) ∧ w.cell? ⟨g, 5, none⟩ = some (.int .i64 x.l) :=
  ⟨(h 0 _ rfl).1, (h 1 _ rfl).1, (h 2 _ rfl).1, (h 3 _ rfl).1, (h 4 _ rfl).1, (h 5 _ rfl).1⟩
theorem Tk.of {w : World} {g o : Nat} (x : Tk) (h : w.rangeAt g o x.cells) : w.cell? ⟨g, o, none⟩ = some (.int .i64 x.i) ∧ w.cell? ⟨g, o + 1, none⟩ = some (.int .u8 x.s) ∧ w.cell? ⟨g, o + 2, none⟩ = some (.int .i64 x.c) ∧ w.cell? ⟨g, o + 3, none⟩ = some (.int .u32 x.w) ∧ w.cell? ⟨g, o + 4, none⟩ = some (.int .u64 x.n) ∧ w.cell? ⟨g, o + 5, none⟩ = some (.int .i64 x.l) :=
  ⟨h 0 _ rfl, h 1 _ rfl, h 2 _ rfl, h 3 _ rfl, h 4 _ rfl, h 5 _ rfl⟩
theorem Tk.new (w : World) (T : TypeId) (x : Tk) : Cs (w.alloc (.cells #[.int .i64 x.i, .int .u8 x.s, .int .i64 x.c, .int .u32 x.w, .int .u64 x.n, .int .i64 x.l] T)) w.heap.size x.cells := Cs.alloc_new w T x.cells
/-- A store of a struct into a row. -/
theorem wpList_put_g {P : Program} {ops : Array Oper} {rest : List Oper} {op : Oper} {a : Act} {w : World} {Q : Exit → Act → World → Prop} (T : TypeId) (vs : List Value) {m : Nat} (hT : (P.info? T).map (·.size) = some m) (hgd : op.guard = none) (x y : Operand) (ho : op.op = .store T x y)
    (b o : Nat) (ht : w.there b o m) (hn : vs.length = m) (h1 : vs.all (·.oneCell') = true) (hx : a.eval x = .pointer (some ⟨b, o, none⟩)) (hy : a.eval y = .agg vs.toArray)
    (h : ∀ W, W = w.setCells b o vs → wpList P ops Q rest (a.put op.dst undef) W) : wpList P ops Q (op :: rest) a w :=
  wpList_store_mid hgd T x y ho b o vs.toArray hx hy (by rw [← hn] at ht; simpa using ht) (by rw [hT, ← hn]; simp) (by simpa using h1) (h _ rfl)
/-- May a task be so? -/
def Tk.ok (x : Tk) : Bool := decide (1 ≤ x.s ∧ x.s ≤ 3)
abbrev OwnT (w : World) (base : Nat) (A : Option Addr) (n c : Nat) (L : List Tk) : Prop := OwnG Tk.cells 6 60 w base A n c L
abbrev RdT (w : World) (A : Option Addr) (n : Nat) (L : List Tk) : Prop := RdG Tk.cells 6 Tk.zero w A n L
set_option maxRecDepth 100000 in
set_option maxHeartbeats 8000000 in
theorem Task.right (x : Tk) (w : World) : Calls Tryz.prog 83 #[x.val] w (Ans (.bool x.ok) w) := by
  have HX0 : Hid (Cs (w.alloc (.cells #[.int .i64 x.i, .int .u8 x.s, .int .i64 x.c, .int .u32 x.w, .int .u64 x.n, .int .i64 x.l] 60)) w.heap.size x.cells ∧ Below w.heap.size w (w.alloc (.cells #[.int .i64 x.i, .int .u8 x.s, .int .i64 x.c, .int .u32 x.w, .int .u64 x.n, .int .i64 x.l] 60))) := hid ⟨Tk.new w 60 x, (Below.refl w.heap.size w).alloc (Nat.le_refl _) _⟩
  unfold Tk.val
  by_cases h1 : 1 ≤ x.s
  · by_cases h2 : x.s ≤ 3
    · have e : x.ok = true := by unfold Tk.ok; simp [h1, h2]
      rw [e]
      clear e
      go_enter Tryz.func83, Tryz.ntmps83
      go_upto_region 1 with fail
      generalize (w.alloc (.cells #[.int .i64 x.i, .int .u8 x.s, .int .i64 x.c, .int .u32 x.w, .int .u64 x.n, .int .i64 x.l] 60)) = W0 at HX0 ⊢
      obtain ⟨x0, x1, x2, x3, x4, x5⟩ := Tk.at x HX0.out.1
      go_wp2_with fail
      go_ret
      exact ⟨rfl, HX0.out.2⟩
    · have e : x.ok = false := by unfold Tk.ok; simp; omega
      rw [e]
      clear e
      go_enter Tryz.func83, Tryz.ntmps83
      go_upto_region 1 with fail
      generalize (w.alloc (.cells #[.int .i64 x.i, .int .u8 x.s, .int .i64 x.c, .int .u32 x.w, .int .u64 x.n, .int .i64 x.l] 60)) = W0 at HX0 ⊢
      obtain ⟨x0, x1, x2, x3, x4, x5⟩ := Tk.at x HX0.out.1
      go_wp2_with fail
      go_ret
      exact ⟨rfl, HX0.out.2⟩
  · have e : x.ok = false := by unfold Tk.ok; simp; omega
    rw [e]
    clear e
    go_enter Tryz.func83, Tryz.ntmps83
    go_upto_region 1 with fail
    generalize (w.alloc (.cells #[.int .i64 x.i, .int .u8 x.s, .int .i64 x.c, .int .u32 x.w, .int .u64 x.n, .int .i64 x.l] 60)) = W0 at HX0 ⊢
    obtain ⟨x0, x1, x2, x3, x4, x5⟩ := Tk.at x HX0.out.1
    go_wp2_with fail
    go_ret
    exact ⟨rfl, HX0.out.2⟩
set_option maxRecDepth 100000 in
set_option maxHeartbeats 8000000 in
theorem Task.free (x : Tk) (w : World) : Calls Tryz.prog 89 #[x.val] w (Ans (.bool (x.s == 0)) w) := by
  have HX0 : Hid (Cs (w.alloc (.cells #[.int .i64 x.i, .int .u8 x.s, .int .i64 x.c, .int .u32 x.w, .int .u64 x.n, .int .i64 x.l] 60)) w.heap.size x.cells ∧ Below w.heap.size w (w.alloc (.cells #[.int .i64 x.i, .int .u8 x.s, .int .i64 x.c, .int .u32 x.w, .int .u64 x.n, .int .i64 x.l] 60))) := hid ⟨Tk.new w 60 x, (Below.refl w.heap.size w).alloc (Nat.le_refl _) _⟩
  unfold Tk.val
  go_enter Tryz.func89, Tryz.ntmps89
  go_upto_region 1 with fail
  generalize (w.alloc (.cells #[.int .i64 x.i, .int .u8 x.s, .int .i64 x.c, .int .u32 x.w, .int .u64 x.n, .int .i64 x.l] 60)) = W0 at HX0 ⊢
  obtain ⟨x0, x1, x2, x3, x4, x5⟩ := Tk.at x HX0.out.1
  go_wp2_with fail
  go_ret
  exact ⟨rfl, HX0.out.2⟩
set_option maxRecDepth 100000 in
set_option maxHeartbeats 8000000 in
theorem Tab.indexf (A : Option Addr) (n c : Nat) (L : List Tk) (w : World) (hr : RdT w A n L) (hn : n ≤ 32) (f : Nat) (hf : f ≤ n) (h1 : ∀ j, j < f → (L.getD j Tk.zero).s ≠ 0) (h2 : f < n → (L.getD f Tk.zero).s = 0) :
    Calls Tryz.prog 88 #[.slice A n c, .func (.func 89) #[] #[]] w (Ans (.int .i64 (if f < n then (f : Int) else -1)) w) := by
  obtain ⟨r, hrr⟩ : ∃ r, (if f < n then (f : Int) else -1) = r := ⟨_, rfl⟩
  rw [hrr]
  have HRR := hid hrr
  have HR := hid hr
  have H1 := hid h1
  have H2 := hid h2
  have HF := hid hf
  have hni : (n : Int) ≤ 32 := by omega
  clear hr h1 h2 hf hrr
  go_enter Tryz.func88, Tryz.ntmps88
  go_wp2_with fail
  go_loopg [8] n (fun s i wr => ∃ k : Nat, i = .int .i64 k ∧ k ≤ f ∧ s = n - k ∧ Below w.heap.size w wr)
  case atStart => exact ⟨0, rfl, Nat.zero_le _, by omega, Below.refl _ _⟩
  case round =>
    obtain ⟨k, rfl, hk, hs, hb⟩ := hrel
    have HS := hid hs
    have HKF := hid hk
    have HB := hid hb
    clear hs hb
    by_cases hkn : k < n
    · obtain ⟨bb, off, hA, _, hc⟩ := (HR.out.below HB.out).2 (by omega)
      obtain ⟨p0, p1, p2, p3, p4, p5⟩ := Tk.of _ (hc k hkn)
      have HG : Hid (((L.getD k Tk.zero).s ≠ 0 ∧ k < f) ∨ ((L.getD k Tk.zero).s = 0 ∧ k = f)) := hid (by
        rcases Nat.lt_or_ge k f with h | h
        · exact Or.inl ⟨H1.out k h, h⟩
        · have e : k = f := by omega
          subst e
          exact Or.inr ⟨H2.out hkn, rfl⟩)
      generalize L.getD k Tk.zero = y at *
      subst hA
      have hki : (k : Int) < n := by omega
      have hk0 : (0 : Int) ≤ k := by omega
      clear hc hk
      go_wp2_with fail
      refine (Task.free y _).mono ?_
      rintro e w2 ⟨rfl, hb2⟩
      have HB2 := hid (below_on HB.out hb2)
      clear hb2 p0 p1 p2 p3 p4 p5
      rcases HG.out with ⟨h1, h2⟩ | ⟨h1, h2⟩
      · have e1 : (y.s == 0) = false := by simpa using h1
        rw [e1]
        have HK := hid h2
        clear e1 h1 h2 HG
        go_wp2_with fail
        go_roundg (n - (k + 1))
        case measure => have := HS.out; omega
        case rel => exact ⟨k + 1, by go_num, HK.out, rfl, HB2.out⟩
      · have e1 : (y.s == 0) = true := by simpa using h1
        rw [e1]
        have HK := hid (show r = (k : Int) by rw [← HRR.out, ← h2, if_pos hkn])
        clear e1 h1 h2 HG
        go_wp2_with fail
        go_ret
        exact ⟨by rw [HK.out] <;> rfl, HB2.out⟩
    · have hki : ¬ (k : Int) < n := by omega
      have HE := hid (show r = -1 by rw [← HRR.out, if_neg (by omega)])
      clear hk
      go_wp2_with fail
      go_ret
      exact ⟨by rw [HE.out] <;> rfl, HB.out⟩
end

/- A table in memory: find, Task, put, Drop, Set, Add, New. -/
section
open Go.RowKit
/-- A table that lies at th. -/
structure TAt (w : World) (base th : Nat) (A : Option Addr) (n c : Nat) (L : List Tk) : Prop where
  cs : Cs w th [.slice A n c]
  row : OwnT w base A n c L
  ne : ∀ j ∈ rowOf A, j ≠ th
  le : n ≤ 32
  bs : base ≤ th
theorem TAt.below {w w' : World} {base th : Nat} {A : Option Addr} {n c : Nat} {L : List Tk} (h : TAt w base th A n c L) (hb : Below w.heap.size w w') : TAt w' base th A n c L := ⟨h.cs.below hb, h.row.below hb, h.ne, h.le, h.bs⟩
theorem TAt.len {w : World} {base th : Nat} {A : Option Addr} {n c : Nat} {L : List Tk} (h : TAt w base th A n c L) : L.length = n := h.row.len Tk.len (by decide)
theorem TAt.rd {w : World} {base th : Nat} {A : Option Addr} {n c : Nat} {L : List Tk} (h : TAt w base th A n c L) : RdT w A n L := h.row.rd Tk.len (by decide) _
theorem TAt.chg {w w' : World} {base th : Nat} {A : Option Addr} {n c : Nat} {L : List Tk} {F : List Nat} (h : TAt w base th A n c L) (hc : Chg F w w') (h1 : ∀ j ∈ rowOf A, j ∉ F) (h2 : th ∉ F) : TAt w' base th A n c L :=
  ⟨fun j v hv => by
    obtain ⟨e1, e2⟩ := h.cs j v hv
    have hlt : th < w.heap.size := World.block_lt_of_cell? w _ e1
    exact ⟨(hc.cell (p := ⟨th, j, none⟩) hlt h2).trans e1, (hc.frozen (p := ⟨th, j, none⟩) hlt h2).trans e2⟩, h.row.chg hc h1, h.ne, h.le, h.bs⟩
/-- Where a task is. -/
def tfind (L : List Tk) (id : Int) : Option Nat := if 1 ≤ id ∧ id ≤ L.length ∧ (L.getD (id - 1).toNat Tk.zero).s ≠ 0 then some (id - 1).toNat else none
theorem tfind_some {L : List Tk} {id : Int} {j : Nat} (h : tfind L id = some j) : id = j + 1 ∧ j < L.length ∧ (L.getD j Tk.zero).s ≠ 0 := by
  unfold tfind at h
  split at h
  · rename_i hc; cases h; exact ⟨by omega, by omega, hc.2.2⟩
  · cases h
theorem tfind_none {L : List Tk} {id : Int} (h : tfind L id = none) : id < 1 ∨ (¬ id < 1 ∧ (L.length : Int) < id) ∨ ∃ j : Nat, id = j + 1 ∧ j < L.length ∧ (L.getD j Tk.zero).s = 0 := by
  unfold tfind at h
  split at h
  · cases h
  · rename_i hc
    by_cases h1 : id < 1
    · exact .inl h1
    · by_cases h2 : (L.length : Int) < id
      · exact .inr (.inl ⟨h1, h2⟩)
      · refine .inr (.inr ⟨(id - 1).toNat, by omega, by omega, ?_⟩)
        exact Classical.not_not.1 fun h3 => hc ⟨by omega, by omega, h3⟩
set_option maxRecDepth 100000 in
set_option maxHeartbeats 8000000 in
theorem Tab.find_yes (base th : Nat) (A : Option Addr) (n c : Nat) (L : List Tk) (id : Int) (j : Nat) (w : World) (h : TAt w base th A n c L) (hf : tfind L id = some j) : Calls Tryz.prog 90 #[.pointer (some ⟨th, 0, none⟩), .int .i64 id] w (Ans (.tuple #[.int .i64 j, .int .i64 0]) w) := by
  have HT := hid h
  have HLN := hid h.len
  obtain ⟨rfl, hj, hs⟩ := tfind_some hf
  have hjn : j < n := by have := h.len; omega
  obtain ⟨g, rfl, hbg, hg⟩ := h.row.head (by omega)
  obtain ⟨p0, p1, p2, p3, p4, p5⟩ := Tk.of _ (h.row.range Tk.len (by decide) Tk.zero hjn)
  have t0 := h.cs.at0
  have hle := h.le
  generalize L.getD j Tk.zero = y at *
  have hs0 : (y.s == 0) = false := by simpa using hs
  have e1 : IntKind.i64.wrap ((j : Int) + 1 - 1) = j := by rw [IntKind.wrap_i64]; omega
  have e2 : wrap64 ((j : Int) + 1 - 1) = j := by unfold wrap64; omega
  have h1 : ¬ (j : Int) + 1 < 1 := by omega
  have h2 : ¬ (n : Int) < (j : Int) + 1 := by omega
  have hki : (j : Int) < n := by omega
  have hk0 : (0 : Int) ≤ j := by omega
  clear h hf hs hj hbg
  go_enter Tryz.func90, Tryz.ntmps90
  go_wp2_with fail
  go_ret2
  exact ⟨rfl, Below.refl _ _⟩
set_option maxRecDepth 100000 in
set_option maxHeartbeats 8000000 in
theorem Tab.find_no (base th : Nat) (A : Option Addr) (n c : Nat) (L : List Tk) (id : Int) (w : World) (h : TAt w base th A n c L) (hf : tfind L id = none) : Calls Tryz.prog 90 #[.pointer (some ⟨th, 0, none⟩), .int .i64 id] w (Ans (.tuple #[.int .i64 0, .int .i64 4]) w) := by
  have t0 := h.cs.at0
  have hle := h.le
  rcases tfind_none hf with h1 | ⟨h1, h2⟩ | ⟨j, rfl, hj, hs⟩
  · clear h hf hle
    go_enter Tryz.func90, Tryz.ntmps90
    go_wp2_with fail
    go_ret2
    exact ⟨rfl, Below.refl _ _⟩
  · have h2' : (n : Int) < id := by have := h.len; omega
    clear h hf hle h2
    go_enter Tryz.func90, Tryz.ntmps90
    go_wp2_with fail
    go_ret2
    exact ⟨rfl, Below.refl _ _⟩
  · have hjn : j < n := by have := h.len; omega
    obtain ⟨g, rfl, hbg, hg⟩ := h.row.head (by omega)
    obtain ⟨p0, p1, p2, p3, p4, p5⟩ := Tk.of _ (h.row.range Tk.len (by decide) Tk.zero hjn)
    generalize L.getD j Tk.zero = y at *
    have hs0 : (y.s == 0) = true := by simpa using hs
    have e1 : IntKind.i64.wrap ((j : Int) + 1 - 1) = j := by rw [IntKind.wrap_i64]; omega
    have e2 : wrap64 ((j : Int) + 1 - 1) = j := by unfold wrap64; omega
    have h1 : ¬ (j : Int) + 1 < 1 := by omega
    have h2 : ¬ (n : Int) < (j : Int) + 1 := by omega
    have hki : (j : Int) < n := by omega
    have hk0 : (0 : Int) ≤ j := by omega
    clear h hf hs hj hbg
    go_enter Tryz.func90, Tryz.ntmps90
    go_wp2_with fail
    go_ret2
    exact ⟨rfl, Below.refl _ _⟩
set_option maxRecDepth 100000 in
set_option maxHeartbeats 8000000 in
theorem Tab.task_yes (base th : Nat) (A : Option Addr) (n c : Nat) (L : List Tk) (id : Int) (j : Nat) (y : Tk) (w : World) (h : TAt w base th A n c L) (hf : tfind L id = some j) (hy : L.getD j Tk.zero = y) : Calls Tryz.prog 42 #[.pointer (some ⟨th, 0, none⟩), .int .i64 id] w (Ans (.tuple #[y.val, .int .i64 0]) w) := by
  have HT := hid h
  have HF := hid hf
  have HY := hid hy
  obtain ⟨-, hj, -⟩ := tfind_some hf
  have hjn : j < n := by have := h.len; omega
  have HJ := hid hjn
  obtain ⟨g, rfl, -, -⟩ := h.row.head (by omega)
  have hki : (j : Int) < n := by omega
  have hk0 : (0 : Int) ≤ j := by omega
  clear h hf hy hj hjn
  have HV0 : Hid (VS w [(w.heap.size, Tk.zero.cells)] (w.alloc (.cells #[.int .i64 0, .int .u8 0, .int .i64 0, .int .u32 0, .int .u64 0, .int .i64 0] 60))) := hid (by have h := ((VS.nil w).new 60 Tk.zero.cells); (try simp only [World.size_alloc] at h); exact h)
  go_enter Tryz.func42, Tryz.ntmps42
  go_upto_region 1 with fail
  generalize (w.alloc (.cells #[.int .i64 0, .int .u8 0, .int .i64 0, .int .u32 0, .int .u64 0, .int .i64 0] 60)) = W0 at HV0 ⊢
  go_wp2_with fail
  refine (Tab.find_yes base th (some ⟨g, 0, none⟩) n c L id j _ (HT.out.below HV0.out.bel) HF.out).mono ?_
  rintro e w1 ⟨rfl, hb⟩
  have HV1 := hid (HV0.out.below hb)
  clear hb HV0 
  have HT1 := HT.out.below HV1.out.bel
  have t0 := HT1.cs.at0
  obtain ⟨p0, p1, p2, p3, p4, p5⟩ := Tk.of _ (HT1.row.range Tk.len (by decide) Tk.zero HJ.out)
  rw [HY.out] at p0 p1 p2 p3 p4 p5
  clear HT1
  go_wp2_with (first | ((with_reducible refine wpList_put_vs HV1.out 0 60 [.int .i64 y.i, .int .u8 y.s, .int .i64 y.c, .int .u32 y.w, .int .u64 y.n, .int .i64 y.l] infoTask rfl (.tmp 4) (.tmp 24) rfl (w.heap.size) (Tk.zero.cells) ?vs1a 0 ?vs1b ?vs1c ?vs1d ?vs1e ?vs1f ?vs1g); (case vs1a => rfl); (case vs1b => rfl); (case vs1c => exact of_decide_eq_true rfl); (case vs1d => rfl); (case vs1e => rfl); (case vs1f => rfl); (intro W2 hW2); (have HV2 : Hid (VS w [(w.heap.size, y.cells)] W2) := hid hW2); (clear hW2 HV1)) | fail)
  obtain ⟨x0, x1, x2, x3, x4, x5⟩ := Tk.at y (HV2.out.cs 0 rfl)
  refine bodyPost_ret (v := .tuple #[Tk.val y, .int .i64 0]) (by simp [results, Tryz.results42, go_sem, x0, x1, x2, x3, x4, x5]) rfl ⟨rfl, HV2.out.bel⟩
set_option maxRecDepth 100000 in
set_option maxHeartbeats 8000000 in
theorem Tab.task_no (base th : Nat) (A : Option Addr) (n c : Nat) (L : List Tk) (id : Int) (w : World) (h : TAt w base th A n c L) (hf : tfind L id = none) : Calls Tryz.prog 42 #[.pointer (some ⟨th, 0, none⟩), .int .i64 id] w (Ans (.tuple #[Tk.zero.val, .int .i64 4]) w) := by
  have HT := hid h
  have HF := hid hf
  clear h hf
  have HV0 : Hid (VS w [(w.heap.size, Tk.zero.cells)] (w.alloc (.cells #[.int .i64 0, .int .u8 0, .int .i64 0, .int .u32 0, .int .u64 0, .int .i64 0] 60))) := hid (by have h := ((VS.nil w).new 60 Tk.zero.cells); (try simp only [World.size_alloc] at h); exact h)
  go_enter Tryz.func42, Tryz.ntmps42
  go_upto_region 1 with fail
  generalize (w.alloc (.cells #[.int .i64 0, .int .u8 0, .int .i64 0, .int .u32 0, .int .u64 0, .int .i64 0] 60)) = W0 at HV0 ⊢
  go_wp2_with fail
  refine (Tab.find_no base th A n c L id _ (HT.out.below HV0.out.bel) HF.out).mono ?_
  rintro e w1 ⟨rfl, hb⟩
  have HV1 := hid (HV0.out.below hb)
  clear hb HV0 
  go_wp2_with (first | ((with_reducible refine wpList_put_vs HV1.out 0 60 [.int .i64 0, .int .u8 0, .int .i64 0, .int .u32 0, .int .u64 0, .int .i64 0] infoTask rfl (.tmp 4) (.tmp 16) rfl (w.heap.size) (Tk.zero.cells) ?vs2a 0 ?vs2b ?vs2c ?vs2d ?vs2e ?vs2f ?vs2g); (case vs2a => rfl); (case vs2b => rfl); (case vs2c => exact of_decide_eq_true rfl); (case vs2d => rfl); (case vs2e => rfl); (case vs2f => rfl); (intro W2 hW2); (have HV2 : Hid (VS w [(w.heap.size, Tk.zero.cells)] W2) := hid hW2); (clear hW2 HV1)) | fail)
  obtain ⟨x0, x1, x2, x3, x4, x5⟩ := Tk.at Tk.zero (HV2.out.cs 0 rfl)
  refine bodyPost_ret (v := .tuple #[Tk.zero.val, .int .i64 4]) (by simp [results, Tryz.results42, go_sem, x0, x1, x2, x3, x4, x5]) rfl ⟨rfl, HV2.out.bel⟩
set_option maxRecDepth 100000 in
set_option maxHeartbeats 8000000 in
theorem Tab.put_no (base th : Nat) (A : Option Addr) (n c : Nat) (L : List Tk) (id : Int) (x : Tk) (w : World) (h : TAt w base th A n c L) (hf : tfind L id = none) : Calls Tryz.prog 84 #[.pointer (some ⟨th, 0, none⟩), .int .i64 id, x.val] w (Ans (.int .i64 4) w) := by
  have HT := hid h
  have HF := hid hf
  have HX0 : Hid (Cs (w.alloc (.cells #[.int .i64 x.i, .int .u8 x.s, .int .i64 x.c, .int .u32 x.w, .int .u64 x.n, .int .i64 x.l] 60)) w.heap.size x.cells ∧ Below w.heap.size w (w.alloc (.cells #[.int .i64 x.i, .int .u8 x.s, .int .i64 x.c, .int .u32 x.w, .int .u64 x.n, .int .i64 x.l] 60))) := hid ⟨Tk.new w 60 x, (Below.refl w.heap.size w).alloc (Nat.le_refl _) _⟩
  clear h hf
  unfold Tk.val
  go_enter Tryz.func84, Tryz.ntmps84
  go_upto_region 1 with fail
  generalize (w.alloc (.cells #[.int .i64 x.i, .int .u8 x.s, .int .i64 x.c, .int .u32 x.w, .int .u64 x.n, .int .i64 x.l] 60)) = W0 at HX0 ⊢
  go_wp2_with fail
  refine (Tab.find_no base th A n c L id _ (HT.out.below HX0.out.2) HF.out).mono ?_
  rintro e w1 ⟨rfl, hb⟩
  have HB1 := hid (below_on HX0.out.2 hb)
  clear hb
  go_wp2_with fail
  go_ret
  exact ⟨rfl, HB1.out⟩
/-- What a store into a table's row leaves. -/
def Putted (base : Nat) (A : Option Addr) (n c : Nat) (L : List Tk) (v : Value) (w : World) (e : Ending) (w' : World) : Prop := e = .returned v ∧ OwnT w' base A n c L ∧ Chg (rowOf A) w w'
theorem Putted.tat {base th : Nat} {A : Option Addr} {n c : Nat} {L M : List Tk} {v : Value} {w w' : World} {e : Ending} (h : Putted base A n c M v w e w') (ht : TAt w base th A n c L) : TAt w' base th A n c M :=
  have hk := ht.chg (F := []) (w' := w) (Chg.refl _ _) (by simp) (by simp)
  ⟨fun j v hv => by
    obtain ⟨e1, e2⟩ := hk.cs j v hv
    have hlt : th < w.heap.size := World.block_lt_of_cell? w _ e1
    have hn : th ∉ rowOf A := fun hm => ht.ne th hm rfl
    exact ⟨(h.2.2.cell (p := ⟨th, j, none⟩) hlt hn).trans e1, (h.2.2.frozen (p := ⟨th, j, none⟩) hlt hn).trans e2⟩, h.2.1, ht.ne, ht.le, ht.bs⟩
set_option maxRecDepth 100000 in
set_option maxHeartbeats 8000000 in
theorem Tab.put_yes (base th : Nat) (A : Option Addr) (n c : Nat) (L : List Tk) (id : Int) (j : Nat) (x : Tk) (w : World) (h : TAt w base th A n c L) (hf : tfind L id = some j) : Calls Tryz.prog 84 #[.pointer (some ⟨th, 0, none⟩), .int .i64 id, x.val] w (Putted base A n c (L.set j x) (.int .i64 0) w) := by
  have HT := hid h
  have HF := hid hf
  obtain ⟨-, hj, -⟩ := tfind_some hf
  have hjn : j < n := by have := h.len; omega
  have HJ := hid hjn
  obtain ⟨g, rfl, hbg, hgw⟩ := h.row.head (by omega)
  have HG := hid hgw
  have hki : (j : Int) < n := by omega
  have hk0 : (0 : Int) ≤ j := by omega
  have HX0 : Hid (Cs (w.alloc (.cells #[.int .i64 x.i, .int .u8 x.s, .int .i64 x.c, .int .u32 x.w, .int .u64 x.n, .int .i64 x.l] 60)) w.heap.size x.cells ∧ Below w.heap.size w (w.alloc (.cells #[.int .i64 x.i, .int .u8 x.s, .int .i64 x.c, .int .u32 x.w, .int .u64 x.n, .int .i64 x.l] 60))) := hid ⟨Tk.new w 60 x, (Below.refl w.heap.size w).alloc (Nat.le_refl _) _⟩
  clear h hf hj hjn
  unfold Tk.val
  go_enter Tryz.func84, Tryz.ntmps84
  go_upto_region 1 with fail
  generalize (w.alloc (.cells #[.int .i64 x.i, .int .u8 x.s, .int .i64 x.c, .int .u32 x.w, .int .u64 x.n, .int .i64 x.l] 60)) = W0 at HX0 ⊢
  go_wp2_with fail
  refine (Tab.find_yes base th (some ⟨g, 0, none⟩) n c L id j _ (HT.out.below HX0.out.2) HF.out).mono ?_
  rintro e w1 ⟨rfl, hb⟩
  have HB1 := hid (below_on HX0.out.2 hb)
  have HX1 := hid (HX0.out.1.below hb)
  have HT1 := hid (HT.out.below HB1.out)
  clear hb
  have t0 := HT1.out.cs.at0
  obtain ⟨x0, x1, x2, x3, x4, x5⟩ := Tk.at x HX1.out
  have HTH := hid (HT1.out.row.there Tk.len (by decide) HJ.out)
  go_upto_region 3 with fail
  have HTD := hid (HT1.out.below (Below.refl _ _).drew)
  have HBD := hid HB1.out.drew
  have HTHD := hid ((World.there_drew w1 g (j * 6) 6).2 HTH.out)
  go_still_tail 7, (by kernel_rfl)
  change wpList _ _ _ _ _ (World.drew _)
  generalize (World.drew w1) = w3 at HTD HBD HTHD ⊢
  go_wp2_with (first | ((with_reducible refine wpList_put_g 60 x.cells infoTask rfl (.tmp 23) (.tmp 22) rfl g (j * 6) HTHD.out ?pta ?ptb ?ptc ?ptd ?pte); (case pta => rfl); (case ptb => rfl); (case ptc => rfl); (case ptd => rfl); (intro W2 hW2); (have HW2 := hid hW2); (clear hW2)) | fail)
  go_wp2_with fail
  go_ret
  refine ⟨rfl, ?_, ?_⟩
  · rw [HW2.out]; exact HTD.out.row.putAt Tk.len (by decide) HJ.out x
  · rw [HW2.out]; exact Chg.setsG _ _ (Chg.below HBD.out) (Or.inl (by simp [rowOf]))
set_option maxRecDepth 100000 in
set_option maxHeartbeats 8000000 in
theorem Tab.drop_yes (base th : Nat) (A : Option Addr) (n c : Nat) (L : List Tk) (id : Int) (j : Nat) (w : World) (h : TAt w base th A n c L) (hf : tfind L id = some j) : Calls Tryz.prog 36 #[.pointer (some ⟨th, 0, none⟩), .int .i64 id] w (Putted base A n c (L.set j Tk.zero) (.int .i64 0) w) := by
  have HT := hid h
  have HF := hid hf
  clear h hf
  go_enter Tryz.func36, Tryz.ntmps36
  go_wp2_with fail
  refine (Tab.put_yes base th A n c L id j Tk.zero _ HT.out HF.out).mono ?_
  rintro e w1 h1
  obtain rfl := h1.1
  have H1 := hid h1.2
  clear h1
  go_wp2_with fail
  go_ret
  exact ⟨rfl, H1.out⟩
set_option maxRecDepth 100000 in
set_option maxHeartbeats 8000000 in
theorem Tab.drop_no (base th : Nat) (A : Option Addr) (n c : Nat) (L : List Tk) (id : Int) (w : World) (h : TAt w base th A n c L) (hf : tfind L id = none) : Calls Tryz.prog 36 #[.pointer (some ⟨th, 0, none⟩), .int .i64 id] w (Ans (.int .i64 4) w) := by
  have HT := hid h
  have HF := hid hf
  clear h hf
  go_enter Tryz.func36, Tryz.ntmps36
  go_wp2_with fail
  refine (Tab.put_no base th A n c L id Tk.zero _ HT.out HF.out).mono ?_
  rintro e w1 h1
  obtain rfl := h1.1
  have H1 := hid h1.2
  clear h1
  go_wp2_with fail
  go_ret
  exact ⟨rfl, H1.out⟩
theorem Tab.added {w w4 W2 : World} {base th g n c j : Nat} {L : List Tk} {y : Tk} (ht : TAt w4 base th (some ⟨g, 0, none⟩) n c L) (hb : Below w.heap.size w w4) (hx : Cs w4 w.heap.size y.cells) (hg : g < w.heap.size) (hj : j < n) (e : W2 = w4.setCells g (j * 6) y.cells) :
    OwnT W2 base (some ⟨g, 0, none⟩) n c (L.set j y) ∧ Chg [g] w W2 ∧ W2.cell? ⟨w.heap.size, 0, none⟩ = some (.int .i64 y.i) := by
  subst e
  exact ⟨ht.row.putAt Tk.len (by decide) hj y, Chg.setsG _ _ (Chg.below hb) (Or.inl (by simp)), (Cs.fars (by omega) _ _ hx).at0⟩
set_option maxRecDepth 100000 in
set_option maxHeartbeats 8000000 in
theorem Tab.add_bad (base th : Nat) (A : Option Addr) (n c : Nat) (L : List Tk) (x : Tk) (w : World) (hx : x.ok = false) : Calls Tryz.prog 39 #[.pointer (some ⟨th, 0, none⟩), x.val] w (Ans (.tuple #[.int .i64 0, .int .i64 2]) w) := by
  have HX := hid hx
  have HX0 : Hid (Cs (w.alloc (.cells #[.int .i64 x.i, .int .u8 x.s, .int .i64 x.c, .int .u32 x.w, .int .u64 x.n, .int .i64 x.l] 60)) w.heap.size x.cells ∧ Below w.heap.size w (w.alloc (.cells #[.int .i64 x.i, .int .u8 x.s, .int .i64 x.c, .int .u32 x.w, .int .u64 x.n, .int .i64 x.l] 60))) := hid ⟨Tk.new w 60 x, (Below.refl w.heap.size w).alloc (Nat.le_refl _) _⟩
  clear hx
  unfold Tk.val
  go_enter Tryz.func39, Tryz.ntmps39
  go_upto_region 1 with fail
  generalize (w.alloc (.cells #[.int .i64 x.i, .int .u8 x.s, .int .i64 x.c, .int .u32 x.w, .int .u64 x.n, .int .i64 x.l] 60)) = W0 at HX0 ⊢
  obtain ⟨x0, x1, x2, x3, x4, x5⟩ := Tk.at x HX0.out.1
  go_wp2_with fail
  refine (Task.right x _).mono ?_
  rw [HX.out]
  rintro e w1 ⟨rfl, hb⟩
  have HB1 := hid (below_on HX0.out.2 hb)
  clear hb x0 x1 x2 x3 x4 x5
  go_wp2_with fail
  go_ret2
  exact ⟨rfl, HB1.out⟩
set_option maxRecDepth 100000 in
set_option maxHeartbeats 8000000 in
theorem Tab.add_full (base th : Nat) (A : Option Addr) (n c : Nat) (L : List Tk) (x : Tk) (w : World) (hx : x.ok = true) (h : TAt w base th A n c L) (hh : ∀ j, j < n → (L.getD j Tk.zero).s ≠ 0) : Calls Tryz.prog 39 #[.pointer (some ⟨th, 0, none⟩), x.val] w (Ans (.tuple #[.int .i64 0, .int .i64 7]) w) := by
  have HX := hid hx
  have HT := hid h
  have HH1 := hid hh
  have HFI := hid (show (if n < n then ((n : Nat) : Int) else -1) = -1 by rw [if_neg (by omega)])
  have HX0 : Hid (Cs (w.alloc (.cells #[.int .i64 x.i, .int .u8 x.s, .int .i64 x.c, .int .u32 x.w, .int .u64 x.n, .int .i64 x.l] 60)) w.heap.size x.cells ∧ Below w.heap.size w (w.alloc (.cells #[.int .i64 x.i, .int .u8 x.s, .int .i64 x.c, .int .u32 x.w, .int .u64 x.n, .int .i64 x.l] 60))) := hid ⟨Tk.new w 60 x, (Below.refl w.heap.size w).alloc (Nat.le_refl _) _⟩
  clear hx h hh
  unfold Tk.val
  go_enter Tryz.func39, Tryz.ntmps39
  go_upto_region 1 with fail
  generalize (w.alloc (.cells #[.int .i64 x.i, .int .u8 x.s, .int .i64 x.c, .int .u32 x.w, .int .u64 x.n, .int .i64 x.l] 60)) = W0 at HX0 ⊢
  obtain ⟨x0, x1, x2, x3, x4, x5⟩ := Tk.at x HX0.out.1
  go_wp2_with fail
  refine (Task.right x _).mono ?_
  rw [HX.out]
  rintro e w1 ⟨rfl, hb⟩
  have HB1 := hid (below_on HX0.out.2 hb)
  have HX1 := hid (HX0.out.1.below hb)
  have HT1 := hid (HT.out.below HB1.out)
  clear hb x0 x1 x2 x3 x4 x5
  have t0 := HT1.out.cs.at0
  go_wp2_with fail
  refine (Tab.indexf A n c L _ HT1.out.rd HT1.out.le n (by omega) HH1.out (by intro h; omega)).mono ?_
  rw [HFI.out]
  rintro e w2 ⟨rfl, hb⟩
  have HB2 := hid (below_on HB1.out hb)
  have HX2 := hid (HX1.out.below hb)
  have HT2 := hid (HT.out.below HB2.out)
  clear hb t0 HX1 HT1 HX0
  go_wp2_with fail
  go_ret2
  exact ⟨rfl, HB2.out⟩
set_option maxRecDepth 100000 in
set_option maxHeartbeats 8000000 in
theorem Tab.add_yes (base th : Nat) (A : Option Addr) (n c : Nat) (L : List Tk) (x : Tk) (j : Nat) (w : World) (hx : x.ok = true) (h : TAt w base th A n c L) (hj : j < n) (hh : ∀ k, k < j → (L.getD k Tk.zero).s ≠ 0) (hz : (L.getD j Tk.zero).s = 0) : Calls Tryz.prog 39 #[.pointer (some ⟨th, 0, none⟩), x.val] w (Putted base A n c (L.set j { x with i := j + 1 }) (.tuple #[.int .i64 ((j : Int) + 1), .int .i64 0]) w) := by
  have HX := hid hx
  have HT := hid h
  have HH1 := hid hh
  have HZ := hid hz
  have HJ := hid hj
  have hle := h.le
  have HFI := hid (show (if j < n then ((j : Nat) : Int) else -1) = j by rw [if_pos hj])
  have hki : (j : Int) < n := by omega
  have hk0 : (0 : Int) ≤ j := by omega
  have hkl : ¬ (j : Int) < 0 := by omega
  have e1 : IntKind.i64.wrap ((j : Int) + 1) = j + 1 := by rw [IntKind.wrap_i64]; omega
  have e2 : wrap64 ((j : Int) + 1) = j + 1 := by unfold wrap64; omega
  have HX0 : Hid (Cs (w.alloc (.cells #[.int .i64 x.i, .int .u8 x.s, .int .i64 x.c, .int .u32 x.w, .int .u64 x.n, .int .i64 x.l] 60)) w.heap.size x.cells ∧ Below w.heap.size w (w.alloc (.cells #[.int .i64 x.i, .int .u8 x.s, .int .i64 x.c, .int .u32 x.w, .int .u64 x.n, .int .i64 x.l] 60))) := hid ⟨Tk.new w 60 x, (Below.refl w.heap.size w).alloc (Nat.le_refl _) _⟩
  clear hx hh hz
  obtain ⟨g, hA, hbg, hgw⟩ := h.row.head (by omega)
  have HG := hid hgw
  subst hA
  clear h hj
  unfold Tk.val
  go_enter Tryz.func39, Tryz.ntmps39
  go_upto_region 1 with fail
  generalize (w.alloc (.cells #[.int .i64 x.i, .int .u8 x.s, .int .i64 x.c, .int .u32 x.w, .int .u64 x.n, .int .i64 x.l] 60)) = W0 at HX0 ⊢
  obtain ⟨x0, x1, x2, x3, x4, x5⟩ := Tk.at x HX0.out.1
  go_wp2_with fail
  refine (Task.right x _).mono ?_
  rw [HX.out]
  rintro e w1 ⟨rfl, hb⟩
  have HB1 := hid (below_on HX0.out.2 hb)
  have HX1 := hid (HX0.out.1.below hb)
  have HT1 := hid (HT.out.below HB1.out)
  clear hb x0 x1 x2 x3 x4 x5
  have t0 := HT1.out.cs.at0
  go_wp2_with fail
  refine (Tab.indexf _ n c L _ HT1.out.rd HT1.out.le j (by have := HJ.out; omega) HH1.out (by intro _; exact HZ.out)).mono ?_
  rw [HFI.out]
  rintro e w2 ⟨rfl, hb⟩
  have HB2 := hid (below_on HB1.out hb)
  have HX2 := hid (HX1.out.below hb)
  have HT2 := hid (HT.out.below HB2.out)
  clear hb t0 HX1 HT1 HX0
  obtain ⟨x0, x1, x2, x3, x4, x5⟩ := Tk.at x HX2.out
  have xf := (HX2.out 0 _ rfl).2
  go_upto_region 9 with fail
  have HX3 : Hid (Cs (w2.setCell ⟨w.heap.size, 0, none⟩ (.int .i64 ((j : Int) + 1))) w.heap.size (Tk.cells { x with i := j + 1 })) := hid (by have := HX2.out.putAt 0 (by rw [Tk.len]; decide) (.int .i64 ((j : Int) + 1)); exact this)
  have HB3 : Hid (Below w.heap.size w (w2.setCell ⟨w.heap.size, 0, none⟩ (.int .i64 ((j : Int) + 1)))) := hid (HB2.out.setCell (Nat.le_refl _) _)
  generalize (w2.setCell ⟨w.heap.size, 0, none⟩ (.int .i64 ((j : Int) + 1))) = w3 at HX3 HB3 ⊢
  have HT3 := hid (HT.out.below HB3.out)
  clear x0 x1 x2 x3 x4 x5 xf HX2 HT2
  have t0 := HT3.out.cs.at0
  obtain ⟨x0, x1, x2, x3, x4, x5⟩ := Tk.at { x with i := j + 1 } HX3.out
  simp only at x0 x1 x2 x3 x4 x5
  have HTH := hid (HT3.out.row.there Tk.len (by decide) HJ.out)
  have HTD := hid (HT3.out.below (Below.refl _ _).drew)
  have HBD := hid HB3.out.drew
  have HXD := hid (HX3.out.below (Below.refl _ _).drew)
  have HTHD := hid ((World.there_drew w3 g (j * 6) 6).2 HTH.out)
  go_still_tail 7, (by kernel_rfl)
  change wpList _ _ _ _ _ (World.drew _)
  generalize (World.drew w3) = w4 at HTD HBD HXD HTHD ⊢
  go_wp2_with (first | ((with_reducible refine wpList_put_g 60 [.int .i64 ((j : Int) + 1), .int .u8 x.s, .int .i64 x.c, .int .u32 x.w, .int .u64 x.n, .int .i64 x.l] infoTask rfl (.tmp 28) (.tmp 27) rfl g (j * 6) HTHD.out ?ptza ?ptzb ?ptzc ?ptzd ?ptze); (case ptza => rfl); (case ptzb => rfl); (case ptzc => rfl); (case ptzd => rfl); (intro W2 hW2); (have HP := hid (Tab.added HTD.out HBD.out HXD.out HG.out HJ.out hW2)); (clear x0 x1 x2 x3 x4 x5); (have x0 := HP.out.2.2); (clear hW2)) | fail)
  go_ret2
  exact ⟨rfl, HP.out.1, by simpa [rowOf] using HP.out.2.1⟩
set_option maxRecDepth 100000 in
set_option maxHeartbeats 8000000 in
theorem madeT (k : Nat) {z0 : Value} (h : z0 = Tk.zero.val) : (List.replicate k Tk.zero).flatMap Tk.cells = (madeCells z0.cells (k * 6)).toList := by
  subst h
  apply List.ext_getElem?
  intro t
  by_cases ht : t < k * 6
  · obtain ⟨q, i, hi, rfl⟩ : ∃ q i, i < 6 ∧ t = q * 6 + i := ⟨t / 6, t % 6, by omega, by omega⟩
    rw [flatG_get Tk.len Tk.zero _ q i (by simp; omega) hi]
    have e1 : (List.replicate k Tk.zero).getD q Tk.zero = Tk.zero := by
      rw [List.getD, List.getElem?_replicate]
      split <;> rfl
    have e2 : (q * 6 + i) % 6 = i := by omega
    have e3 : (Tk.zero.val.cells).size = 6 := rfl
    have e4 : (madeCells Tk.zero.val.cells (k * 6)).toList[q * 6 + i]? = some (Tk.zero.val.cells[i]!) := by
      rw [Array.getElem?_toList]
      unfold madeCells
      rw [Array.getElem?_map, Array.getElem?_range, if_pos ht, Option.map_some, e3, e2]
    rw [e1, e4]
    match i, hi with
    | 0, _ | 1, _ | 2, _ | 3, _ | 4, _ | 5, _ => rfl
  · rw [List.getElem?_eq_none (by rw [flatG_length Tk.len]; simp; omega), List.getElem?_eq_none (by rw [Array.length_toList, size_madeCells]; omega)]
set_option maxRecDepth 100000 in
set_option maxHeartbeats 8000000 in
theorem Tab.new (m : Int) (k : Nat) (hk : min (max m 0) 32 = (k : Int)) (w : World) : Calls Tryz.prog 32 #[.int .i64 m] w fun e w' => ∃ th g, e = .returned (.pointer (some ⟨th, 0, none⟩)) ∧ TAt w' w.heap.size th (some ⟨g, 0, none⟩) k k (List.replicate k Tk.zero) ∧ Below w.heap.size w w' := by
  have hk32 : k ≤ 32 := by omega
  obtain ⟨i0, z0, hi, hz, hzz, hsz, hby⟩ : ∃ i0 z0, Tryz.prog.info? 60 = some i0 ∧ i0.zero = some z0 ∧ z0 = Tk.zero.val ∧ i0.size = 6 ∧ i0.bytes ≤ 100 := by
    have hq : (Tryz.prog.info? 60).map (fun i => (i.zero, i.size, decide (i.bytes ≤ 100))) = some (some Tk.zero.val, 6, true) := by kernel_rfl
    cases hi : Tryz.prog.info? 60 with
    | none => rw [hi] at hq; cases hq
    | some i =>
      rw [hi] at hq
      simp only [Option.map_some, Option.some.injEq, Prod.mk.injEq, decide_eq_true_eq] at hq
      exact ⟨i, _, rfl, hq.1, rfl, hq.2.1, hq.2.2⟩
  obtain ⟨w1, hrun, hrow, hgr⟩ := run_makeSlice_full (P := Tryz.prog) (w := w) w.heap.size 79 60 i0 z0 6 Tryz.underlying79 hi hz hsz .i64 .i64 k (by omega) (by have := Nat.mul_le_mul hby hk32; omega) (by unfold maxLen; omega) (Nat.le_refl _)
  have HROW : Hid (OwnT w1 w.heap.size (some ⟨w.heap.size, 0, none⟩) k k (List.replicate k Tk.zero)) := hid (by
    unfold OwnT OwnG
    have e : (List.replicate k Tk.zero).flatMap Tk.cells = (madeCells z0.cells (k * 6)).toList := madeT k hzz
    rw [e]; exact hrow)
  have HB1 : Hid (Below w.heap.size w w1) := hid ((Below.refl _ _).grown hgr (Nat.le_refl _) (fun k e => by cases e))
  have HLT : Hid (w.heap.size < w1.heap.size) := hid (by
    rcases HROW.out.2 with ⟨hv, _⟩ | ⟨g, cap, cur, hv, _, hg, _⟩
    · cases hv
    · injection hv with e1; injection e1 with e1; injection e1 with e1; subst e1; exact (Array.getElem?_eq_some_iff.1 hg).1)
  clear hrow hgr
  go_enter Tryz.func32, Tryz.ntmps32
  go_wp2_with fail
  go_ret
  refine ⟨_, _, rfl, ⟨Cs.alloc_new w1 140 [_], HROW.out.alloc _, fun j hj => ?_, hk32, HB1.out.size⟩, HB1.out.alloc HB1.out.size _⟩
  simp [rowOf] at hj
  have := HLT.out
  omega
end

/- Acts on tables; which place is free: as numbers. -/
section
open Go.RowKit
def Tk.In (x : Tk) : Prop := (Lit.int .i64 x.i).wf = true ∧ (0 ≤ x.s ∧ x.s ≤ 255) ∧ (Lit.int .i64 x.c).wf = true ∧ (Lit.int .u32 x.w).wf = true ∧ (Lit.int .u64 x.n).wf = true ∧ (Lit.int .i64 x.l).wf = true
structure Ac where
  d : Int
  x : Tk
def Ac.cells (a : Ac) : List Value := [.int .u8 a.d, .int .i64 a.x.i, .int .u8 a.x.s, .int .i64 a.x.c, .int .u32 a.x.w, .int .u64 a.x.n, .int .i64 a.x.l]
theorem Ac.len (a : Ac) : a.cells.length = 7 := rfl
abbrev Ac.zero : Ac := ⟨0, Tk.zero⟩
def Ac.In (a : Ac) : Prop := (0 ≤ a.d ∧ a.d ≤ 255) ∧ a.x.In
abbrev RdA (w : World) (A : Option Addr) (n : Nat) (L : List Ac) : Prop := RdG Ac.cells 7 Ac.zero w A n L
theorem Ac.of {w : World} {g o : Nat} (a : Ac) (h : w.rangeAt g o a.cells) : w.cell? ⟨g, o, none⟩ = some (.int .u8 a.d) ∧ w.cell? ⟨g, o + 1, none⟩ = some (.int .i64 a.x.i) ∧ w.cell? ⟨g, o + 2, none⟩ = some (.int .u8 a.x.s) ∧ w.cell? ⟨g, o + 3, none⟩ = some (.int .i64 a.x.c) ∧ w.cell? ⟨g, o + 4, none⟩ = some (.int .u32 a.x.w) ∧ w.cell? ⟨g, o + 5, none⟩ = some (.int .u64 a.x.n) ∧ w.cell? ⟨g, o + 6, none⟩ = some (.int .i64 a.x.l) :=
  ⟨h 0 _ rfl, h 1 _ rfl, h 2 _ rfl, h 3 _ rfl, h 4 _ rfl, h 5 _ rfl, h 6 _ rfl⟩
theorem Ac.at {w : World} {g : Nat} (a : Ac) (h : Cs w g a.cells) : w.cell? ⟨g, 0, none⟩ = some (.int .u8 a.d) ∧ w.cell? ⟨g, 1, none⟩ = some (.int .i64 a.x.i) ∧ w.cell? ⟨g, 2, none⟩ = some (.int .u8 a.x.s) ∧ w.cell? ⟨g, 3, none⟩ = some (.int .i64 a.x.c) ∧ w.cell? ⟨g, 4, none⟩ = some (.int .u32 a.x.w) ∧ w.cell? ⟨g, 5, none⟩ = some (.int .u64 a.x.n) ∧ w.cell? ⟨g, 6, none⟩ = some (.int .i64 a.x.l) :=
  ⟨(h 0 _ rfl).1, (h 1 _ rfl).1, (h 2 _ rfl).1, (h 3 _ rfl).1, (h 4 _ rfl).1, (h 5 _ rfl).1, (h 6 _ rfl).1⟩
theorem Ac.new (w : World) (T : TypeId) (a : Ac) : Cs (w.alloc (.cells #[.int .u8 a.d, .int .i64 a.x.i, .int .u8 a.x.s, .int .i64 a.x.c, .int .u32 a.x.w, .int .u64 a.x.n, .int .i64 a.x.l] T)) w.heap.size a.cells := Cs.alloc_new w T a.cells
/-- The least ID from a place on that is free; 0: none. -/
def lfd : List Tk → Nat → Int
  | [], _ => 0
  | x :: r, k => if x.s = 0 then (k : Int) + 1 else lfd r (k + 1)
def lf (L : List Tk) (k : Nat) : Int := lfd (L.drop k) k
theorem lf_end (L : List Tk) : lf L L.length = 0 := by unfold lf; rw [List.drop_length]; rfl
theorem lf_step {L : List Tk} {k : Nat} (hk : k < L.length) : lf L k = if (L.getD k Tk.zero).s = 0 then (k : Int) + 1 else lf L (k + 1) := by
  have e : L.getD k Tk.zero = L[k] := by simp [List.getD, hk]
  unfold lf
  rw [List.drop_eq_getElem_cons hk, e]
  rfl
theorem lfd_spec : ∀ (r : List Tk) (k : Nat), (lfd r k = 0 ∧ ∀ j, j < r.length → (r.getD j Tk.zero).s ≠ 0) ∨ ∃ j, j < r.length ∧ lfd r k = ((k + j : Nat) : Int) + 1 ∧ (r.getD j Tk.zero).s = 0 ∧ ∀ i, i < j → (r.getD i Tk.zero).s ≠ 0
  | [], k => .inl ⟨rfl, fun j hj => absurd hj (by simp)⟩
  | x :: r, k => by
    by_cases hx : x.s = 0
    · exact .inr ⟨0, by simp, by simp [lfd, hx], by simpa using hx, fun i hi => absurd hi (by omega)⟩
    · rcases lfd_spec r (k + 1) with ⟨h1, h2⟩ | ⟨j, h1, h2, h3, h4⟩
      · refine .inl ⟨by simp [lfd, hx, h1], fun j hj => ?_⟩
        cases j with
        | zero => simpa using hx
        | succ j => simpa using h2 j (by simpa using hj)
      · refine .inr ⟨j + 1, by simpa using h1, by simp only [lfd, hx, if_false, h2]; omega, by simpa using h3, fun i hi => ?_⟩
        cases i with
        | zero => simpa using hx
        | succ i => simpa using h4 i (by omega)
theorem lf_spec (L : List Tk) : (lf L 0 = 0 ∧ ∀ j, j < L.length → (L.getD j Tk.zero).s ≠ 0) ∨ ∃ j, j < L.length ∧ lf L 0 = (j : Int) + 1 ∧ (L.getD j Tk.zero).s = 0 ∧ ∀ i, i < j → (L.getD i Tk.zero).s ≠ 0 := by
  have := lfd_spec L 0
  simpa [lf] using this
theorem tfind_at {L : List Tk} {j : Nat} (hj : j < L.length) : tfind L ((j : Int) + 1) = if (L.getD j Tk.zero).s = 0 then none else some j := by
  unfold tfind
  have e : ((j : Int) + 1 - 1).toNat = j := by omega
  rw [e]
  by_cases h : (L.getD j Tk.zero).s = 0
  · rw [if_neg (by intro hc; exact hc.2.2 h), if_pos h]
  · rw [if_pos ⟨by omega, by omega, h⟩, if_neg h]
end

/- A table's places and the document's list: as numbers. -/
section
open Go.RowKit
/-- A table's places: each is free, or holds the task of its ID. -/
def TInv (L : List Tk) : Prop := ∀ (j : Nat) (x : Tk), L[j]? = some x → (x = Tk.zero ∨ (x.i = (j : Int) + 1 ∧ x.ok = true)) 
def keep (x : Tk) : Bool := !(x.s == 0)
theorem keep_ok {x : Tk} (h : x.ok = true) : keep x = true := by
  unfold Tk.ok at h; unfold keep
  simp only [decide_eq_true_eq] at h
  simp; omega
theorem keep_s {x : Tk} (h : keep x = true) : x.s ≠ 0 := by simpa [keep] using h
theorem TInv.none (N : Nat) : TInv (List.replicate N Tk.zero) := fun j x h => by
  rw [List.getElem?_replicate] at h
  split at h
  · cases h; exact .inl rfl
  · cases h
theorem TInv.set {L : List Tk} (h : TInv L) (j : Nat) {x : Tk} (hx : x = Tk.zero ∨ (x.i = (j : Int) + 1 ∧ x.ok = true)) : TInv (L.set j x) := fun k y hy => by
  rw [List.getElem?_set] at hy
  split at hy
  · rename_i e
    subst e
    split at hy
    · cases hy; exact hx
    · cases hy
  · exact h k y hy
theorem TInv.at {L : List Tk} (h : TInv L) {j : Nat} (hj : j < L.length) (hs : (L.getD j Tk.zero).s ≠ 0) : (L.getD j Tk.zero).i = (j : Int) + 1 ∧ (L.getD j Tk.zero).ok = true := by
  have e : L.getD j Tk.zero = L[j] := by simp [List.getD, hj]
  rw [e] at hs ⊢
  rcases h j _ (List.getElem?_eq_getElem hj) with h | h
  · rw [h] at hs; exact absurd rfl hs
  · exact h
/-- The document's way to lay a task into its list. -/
def wth (x : Tk) : Bool → List Tk → List Tk
  | done, [] => if done then [] else [x]
  | done, y :: l => if y.i = x.i then wth x done l else if done = false ∧ x.i < y.i then x :: y :: wth x true l else y :: wth x done l
theorem wth_true (x : Tk) : ∀ l : List Tk, wth x true l = l.filter fun y => !(y.i == x.i)
  | [] => rfl
  | y :: l => by
    unfold wth
    by_cases h : y.i = x.i
    · simp [h, wth_true x l]
    · simp [h, wth_true x l]
theorem wth_app (x : Tk) : ∀ (a r : List Tk), (∀ y ∈ a, y.i < x.i) → wth x false (a ++ r) = a ++ wth x false r
  | [], r, _ => rfl
  | y :: a, r, h => by
    have hy := h y (by simp)
    rw [List.cons_append, wth, if_neg (by omega), if_neg (by omega), wth_app x a r fun z hz => h z (by simp [hz])]
    rfl
theorem wth_gt (x : Tk) : ∀ (r : List Tk), (∀ y ∈ r, x.i < y.i) → wth x false r = x :: r
  | [], _ => rfl
  | y :: r, h => by
    have hy := h y (by simp)
    have hr : r.filter (fun y => !(y.i == x.i)) = r := by
      rw [List.filter_eq_self]
      intro z hz
      have := h z (by simp [hz])
      simp; omega
    rw [wth, if_neg (by omega), if_pos ⟨rfl, hy⟩, wth_true, hr]
theorem wth_hit (x y : Tk) (r : List Tk) (h : y.i = x.i) : wth x false (y :: r) = wth x false r := by
  rw [wth, if_pos h]
/-- What stands ahead of a place, and behind it, in the document's list. -/
theorem kept_lt {L : List Tk} (h : TInv L) (j : Nat) : ∀ y ∈ (L.take j).filter keep, y.i < (j : Int) + 1 ∧ 0 < y.i := fun y hy => by
  obtain ⟨h1, h2⟩ := List.mem_filter.1 hy
  obtain ⟨k, hk⟩ := List.mem_iff_getElem?.1 h1
  have hkj : k < j := by
    rcases Nat.lt_or_ge k j with h' | h'
    · exact h'
    · rw [List.getElem?_take_eq_none h'] at hk; cases hk
  rw [List.getElem?_take_of_lt hkj] at hk
  rcases h k y hk with rfl | ⟨e, _⟩
  · simp [keep] at h2
  · omega
theorem kept_gt {L : List Tk} (h : TInv L) (j : Nat) : ∀ y ∈ (L.drop j).filter keep, (j : Int) < y.i := fun y hy => by
  obtain ⟨h1, h2⟩ := List.mem_filter.1 hy
  obtain ⟨k, hk⟩ := List.mem_iff_getElem?.1 h1
  rw [List.getElem?_drop] at hk
  rcases h _ y hk with rfl | ⟨e, _⟩
  · simp [keep] at h2
  · omega
theorem kept_split (L : List Tk) {j : Nat} (hj : j < L.length) : L.filter keep = (L.take j).filter keep ++ ((if keep (L.getD j Tk.zero) = true then [L.getD j Tk.zero] else []) ++ (L.drop (j + 1)).filter keep) := by
  have e : L.getD j Tk.zero = L[j] := by simp [List.getD, hj]
  rw [e]
  have h1 : L = L.take j ++ (L[j] :: L.drop (j + 1)) := by rw [← List.drop_eq_getElem_cons hj, List.take_append_drop]
  conv => lhs; rw [h1]
  rw [List.filter_append, List.filter_cons]
  split <;> simp
theorem kept_set (L : List Tk) {j : Nat} (hj : j < L.length) (x : Tk) : (L.set j x).filter keep = (L.take j).filter keep ++ ((if keep x = true then [x] else []) ++ (L.drop (j + 1)).filter keep) := by
  have h := kept_split (L.set j x) (j := j) (by simpa using hj)
  have e1 : (L.set j x).getD j Tk.zero = x := by simp [List.getD, hj]
  have e2 : (L.set j x).take j = L.take j := by rw [List.take_set_of_le (Nat.le_refl _)]
  have e3 : (L.set j x).drop (j + 1) = L.drop (j + 1) := by rw [List.drop_set_of_lt (Nat.lt_succ_self _)]
  rw [e1, e2, e3] at h
  exact h
/-- A task laid into its place is laid into the document's list. -/
theorem wth_set {L : List Tk} (h : TInv L) {j : Nat} (hj : j < L.length) {x : Tk} (hi : x.i = (j : Int) + 1) (hx : x.ok = true) : wth x false (L.filter keep) = (L.set j x).filter keep := by
  rw [kept_set L hj, if_pos (keep_ok hx), kept_split L hj, wth_app x _ _ (fun y hy => by have := kept_lt h j y hy; omega)]
  congr 1
  have hgt := wth_gt x ((L.drop (j + 1)).filter keep) fun y hy => by have := kept_gt h (j + 1) y hy; omega
  split
  · rename_i hk
    have hs : (L.getD j Tk.zero).s ≠ 0 := keep_s hk
    rw [List.singleton_append, wth_hit x _ _ (by rw [hi]; exact (h.at hj hs).1), hgt]
    rfl
  · rw [List.nil_append, hgt]; rfl
/-- A task that is dropped is dropped from the document's list. -/
theorem drop_set {L : List Tk} (h : TInv L) {j : Nat} (hj : j < L.length) : (L.filter keep).filter (fun y => !(y.i == (j : Int) + 1)) = (L.set j Tk.zero).filter keep := by
  rw [kept_set L hj, kept_split L hj, List.filter_append, List.filter_append]
  have h1 : ((L.take j).filter keep).filter (fun y => !(y.i == (j : Int) + 1)) = (L.take j).filter keep := by
    rw [List.filter_eq_self]; intro y hy; have := kept_lt h j y hy; simp; omega
  have h2 : ((L.drop (j + 1)).filter keep).filter (fun y => !(y.i == (j : Int) + 1)) = (L.drop (j + 1)).filter keep := by
    rw [List.filter_eq_self]; intro y hy; have := kept_gt h (j + 1) y hy; simp; omega
  have e0 : keep Tk.zero = false := rfl
  have e1 : (if keep Tk.zero = true then [Tk.zero] else []) = [] := if_neg (by rw [e0]; decide)
  have h3 : (if keep (L.getD j Tk.zero) = true then [L.getD j Tk.zero] else []).filter (fun y => !(y.i == (j : Int) + 1)) = [] := by
    split
    · rename_i hk
      have hs : (L.getD j Tk.zero).s ≠ 0 := keep_s hk
      have ha := (h.at hj hs).1
      generalize L.getD j Tk.zero = y at ha
      simp [ha]
    · rfl
  rw [h1, h2, h3, e1]
/-- Who has an ID, by the document. -/
def getI (D : List Tk) (id : Int) : Option Tk := D.find? fun y => y.i == id
theorem get_find {L : List Tk} (h : TInv L) (id : Int) : getI (L.filter keep) id = (tfind L id).map fun j => L.getD j Tk.zero := by
  unfold getI
  cases hf : tfind L id with
  | some j =>
    obtain ⟨rfl, hj, hs⟩ := tfind_some hf
    rw [kept_split L hj, List.find?_append]
    have h1 : List.find? (fun y => y.i == (j : Int) + 1) ((L.take j).filter keep) = none := by
      rw [List.find?_eq_none]; intro y hy; have := kept_lt h j y hy; simp; omega
    have hk : keep (L.getD j Tk.zero) = true := by
      generalize L.getD j Tk.zero = y at hs
      simp [keep, hs]
    rw [h1, if_pos hk]
    have ha := (h.at hj hs).1
    simp only [Option.map_some]
    generalize L.getD j Tk.zero = y at ha
    simp [ha]
  | none =>
    simp only [Option.map_none]
    rw [List.find?_eq_none]
    intro y hy hyi
    obtain ⟨h1, h2⟩ := List.mem_filter.1 hy
    obtain ⟨k, hk⟩ := List.mem_iff_getElem?.1 h1
    have hkl := (List.getElem?_eq_some_iff.1 hk).1
    have hyi' : y.i = id := by simpa using hyi
    rcases h k y hk with rfl | ⟨e, _⟩
    · simp [keep] at h2
    · have hg : L.getD k Tk.zero = y := by simp [List.getD, hk]
      have := tfind_at hkl
      rw [hg, show (k : Int) + 1 = id by omega, hf] at this
      split at this
      · rename_i h0; simp [keep, h0] at h2
      · cases this
/-- A row while what is free is left out: what is kept so far, and how many places are written. -/
theorem filter_step (L : List Tk) {j : Nat} (hj : j < L.length) : (L.take (j + 1)).filter keep = (L.take j).filter keep ++ (if keep (L.getD j Tk.zero) = true then [L.getD j Tk.zero] else []) := by
  have e : L.getD j Tk.zero = L[j] := by simp [List.getD, hj]
  rw [List.take_succ_eq_append_getElem hj, List.filter_append, e, List.filter_cons, List.filter_nil]
end

/- A table's Clone, Tasks, States. -/
section
open Go.RowKit
set_option maxRecDepth 100000 in
set_option maxHeartbeats 8000000 in
theorem Task.freeT (x : Tk) (w : World) : Calls Tryz.prog 93 #[x.val] w (Ans (.bool (x.s == 0)) w) := by
  have HX0 : Hid (Cs (w.alloc (.cells #[.int .i64 x.i, .int .u8 x.s, .int .i64 x.c, .int .u32 x.w, .int .u64 x.n, .int .i64 x.l] 60)) w.heap.size x.cells ∧ Below w.heap.size w (w.alloc (.cells #[.int .i64 x.i, .int .u8 x.s, .int .i64 x.c, .int .u32 x.w, .int .u64 x.n, .int .i64 x.l] 60))) := hid ⟨Tk.new w 60 x, (Below.refl w.heap.size w).alloc (Nat.le_refl _) _⟩
  unfold Tk.val
  go_enter Tryz.func93, Tryz.ntmps93
  go_upto_region 1 with fail
  generalize (w.alloc (.cells #[.int .i64 x.i, .int .u8 x.s, .int .i64 x.c, .int .u32 x.w, .int .u64 x.n, .int .i64 x.l] 60)) = W0 at HX0 ⊢
  obtain ⟨x0, x1, x2, x3, x4, x5⟩ := Tk.at x HX0.out.1
  go_wp2_with fail
  go_ret
  exact ⟨rfl, HX0.out.2⟩
set_option maxRecDepth 100000 in
set_option maxHeartbeats 8000000 in
theorem Tab.indexfT (A : Option Addr) (n c : Nat) (L : List Tk) (w : World) (hr : RdT w A n L) (hn : n ≤ 32) (f : Nat) (hf : f ≤ n) (h1 : ∀ j, j < f → (L.getD j Tk.zero).s ≠ 0) (h2 : f < n → (L.getD f Tk.zero).s = 0) :
    Calls Tryz.prog 88 #[.slice A n c, .func (.func 93) #[] #[]] w (Ans (.int .i64 (if f < n then (f : Int) else -1)) w) := by
  obtain ⟨r, hrr⟩ : ∃ r, (if f < n then (f : Int) else -1) = r := ⟨_, rfl⟩
  rw [hrr]
  have HRR := hid hrr
  have HR := hid hr
  have H1 := hid h1
  have H2 := hid h2
  have HF := hid hf
  have hni : (n : Int) ≤ 32 := by omega
  clear hr h1 h2 hf hrr
  go_enter Tryz.func88, Tryz.ntmps88
  go_wp2_with fail
  go_loopg [8] n (fun s i wr => ∃ k : Nat, i = .int .i64 k ∧ k ≤ f ∧ s = n - k ∧ Below w.heap.size w wr)
  case atStart => exact ⟨0, rfl, Nat.zero_le _, by omega, Below.refl _ _⟩
  case round =>
    obtain ⟨k, rfl, hk, hs, hb⟩ := hrel
    have HS := hid hs
    have HKF := hid hk
    have HB := hid hb
    clear hs hb
    by_cases hkn : k < n
    · obtain ⟨bb, off, hA, _, hc⟩ := (HR.out.below HB.out).2 (by omega)
      obtain ⟨p0, p1, p2, p3, p4, p5⟩ := Tk.of _ (hc k hkn)
      have HG : Hid (((L.getD k Tk.zero).s ≠ 0 ∧ k < f) ∨ ((L.getD k Tk.zero).s = 0 ∧ k = f)) := hid (by
        rcases Nat.lt_or_ge k f with h | h
        · exact Or.inl ⟨H1.out k h, h⟩
        · have e : k = f := by omega
          subst e
          exact Or.inr ⟨H2.out hkn, rfl⟩)
      generalize L.getD k Tk.zero = y at *
      subst hA
      have hki : (k : Int) < n := by omega
      have hk0 : (0 : Int) ≤ k := by omega
      clear hc hk
      go_wp2_with fail
      refine (Task.freeT y _).mono ?_
      rintro e w2 ⟨rfl, hb2⟩
      have HB2 := hid (below_on HB.out hb2)
      clear hb2 p0 p1 p2 p3 p4 p5
      rcases HG.out with ⟨h1, h2⟩ | ⟨h1, h2⟩
      · have e1 : (y.s == 0) = false := by simpa using h1
        rw [e1]
        have HK := hid h2
        clear e1 h1 h2 HG
        go_wp2_with fail
        go_roundg (n - (k + 1))
        case measure => have := HS.out; omega
        case rel => exact ⟨k + 1, by go_num, HK.out, rfl, HB2.out⟩
      · have e1 : (y.s == 0) = true := by simpa using h1
        rw [e1]
        have HK := hid (show r = (k : Int) by rw [← HRR.out, ← h2, if_pos hkn])
        clear e1 h1 h2 HG
        go_wp2_with fail
        go_ret
        exact ⟨by rw [HK.out] <;> rfl, HB2.out⟩
    · have hki : ¬ (k : Int) < n := by omega
      have HE := hid (show r = -1 by rw [← HRR.out, if_neg (by omega)])
      clear hk
      go_wp2_with fail
      go_ret
      exact ⟨by rw [HE.out] <;> rfl, HB.out⟩
theorem infoTask6 : (Tryz.prog.info? 60).map (fun i => (i.zero.map (·.cells.size), i.size, decide (i.bytes ≤ 100))) = some (some 6, 6, true) := by kernel_rfl
/-- append of tasks that are read, one at least. -/
theorem wpList_append_ts {ops : Array Oper} {o : Oper} {a : Act} {rest : List Oper} {Q : Exit → Act → World → Prop} (w : World) (hgd : o.guard = none) (s x : Operand)
    (ho : o.op = .call { callee := .builtin .append, args := #[s, x], argTypes := #[79, 79] })
    (base : Nat) (A : Option Addr) (n c : Nat) (l : List Tk) (hs : a.eval s = .slice A n c) (hown : OwnT w base A n c l) (B : Option Addr) (m d : Nat) (k : List Tk) (hx : a.eval x = .slice B m d)
    (hr : RdT w B m k) (hm : 0 < m) (hn : n + m ≤ 1000000) (hbase : base ≤ w.heap.size)
    (h : ∀ A' c' w', OwnT w' base A' (n + m) c' (l ++ k) → Chg (rowOf A) w w' → (∀ q ∈ rowOf A', q ∈ rowOf A ∨ w.heap.size ≤ q) → wpList Tryz.prog ops Q rest (a.put o.dst (.slice A' (n + m) c')) w') : wpList Tryz.prog ops Q (o :: rest) a w := by
  obtain ⟨i0, z0, hi0, hz0, hz1, hz2, hz3⟩ : ∃ i0 z0, Tryz.prog.info? 60 = some i0 ∧ i0.zero = some z0 ∧ z0.cells.size = 6 ∧ i0.size = 6 ∧ i0.bytes ≤ 100 := by
    have hi := infoTask6
    cases hi' : Tryz.prog.info? 60 with
    | none => rw [hi'] at hi; cases hi
    | some i =>
      rw [hi'] at hi
      simp only [Option.map_some, Option.some.injEq, Prod.mk.injEq, decide_eq_true_eq] at hi
      obtain ⟨e1, e2, e3⟩ := hi
      cases hz : i.zero with
      | none => rw [hz] at e1; cases e1
      | some z =>
        rw [hz] at e1
        simp only [Option.map_some, Option.some.injEq] at e1
        exact ⟨i, z, rfl, hz, e1, e2, e3⟩
  obtain ⟨b, off, rfl, _, hc⟩ := hr.2 hm
  have hlen := hr.1
  refine wpList_append_lies w hgd s x 79 ho base 60 i0 z0 6 i0.bytes Tryz.underlying79 hi0 hz0 hz2 rfl hz1 (by decide) (.slice A n c) n (l.flatMap Tk.cells) hs hown
    ⟨b, off, none⟩ m d (k.flatMap Tk.cells) hx (by rw [flatG_length Tk.len, hlen]) ?_ (flatG_one Tk.one k) hm (by unfold maxLen; omega) ?_ hbase _ rfl ?_
  · intro j u hj
    rw [Addr.add_mid]
    have hjl : j < k.length * 6 := by
      have := (List.getElem?_eq_some_iff.1 hj).1
      rwa [flatG_length Tk.len] at this
    have e : j = j / 6 * 6 + j % 6 := by omega
    rw [e, flatG_get Tk.len Tk.zero k (j / 6) (j % 6) (by omega) (by omega)] at hj
    rw [e, ← Nat.add_assoc]
    exact hc (j / 6) (by omega) _ _ hj
  · have := Nat.mul_le_mul hn hz3
    omega
  · intro g cap w' h2 h3 h4 _
    refine h _ _ w' (by unfold OwnT OwnG; simpa using h2) (Chg.grown h3) (fun q hq => ?_)
    simp [rowOf] at hq
    subst hq
    rcases h4 with h4 | h4
    · exact Or.inl (row_own h4)
    · right; omega
theorem OwnT.empty (w : World) {base : Nat} (hb : base ≤ w.heap.size) : OwnT (w.alloc (.cells #[] 60)) base (some ⟨w.heap.size, 0, none⟩) 0 0 [] := by
  have h := World.ownsRow_lit (base := base) (e := 60) (size := 6) w #[] 0 hb (by decide) (by decide)
  simpa [OwnT, OwnG] using h
set_option maxRecDepth 100000 in
set_option maxHeartbeats 8000000 in
theorem Sls.cloneT (b off : Nat) (n c : Nat) (l : List Tk) (w : World) (hr : RdT w (some ⟨b, off, none⟩) n l) (hn : n ≤ 1000000) :
    Calls Tryz.prog 87 #[.slice (some ⟨b, off, none⟩) n c] w fun e w' => ∃ (g : Nat) (c' : Nat), e = .returned (.slice (some ⟨g, 0, none⟩) n c') ∧ OwnT w' w.heap.size (some ⟨g, 0, none⟩) n c' l ∧ Below w.heap.size w w' := by
  have HO := hid (OwnT.empty w (base := w.heap.size) (Nat.le_refl _))
  have HB := hid ((Below.refl w.heap.size w).alloc (Nat.le_refl _) (.cells #[] 60))
  have hbin : ∀ w : World, (binOp BinOp.eql 79 (.slice (some ⟨b, off, none⟩) n c) (.slice none 0 0)).run Tryz.prog w = .ok (.bool false) w := fun w => by kernel_rfl
  by_cases h0 : 0 < n
  · have HR := hid hr
    clear hr
    have hRD := HR.out.below HB.out
    have hO0 := HO.out
    have hbs := HB.out.size
    have hn0 : 0 + n ≤ 1000000 := by omega
    have HN0 := hid h0
    go_enter Tryz.func87, Tryz.ntmps87
    go_wp2_with (first
      | (at_builtin; (with_reducible refine wpList_append_ts _ rfl (.tmp 5) (.tmp 6) rfl w.heap.size (some ⟨w.heap.size, 0, none⟩) 0 0 [] ?ca1 hO0 (some ⟨b, off, none⟩) n c l ?ca2 hRD h0 hn0 hbs ?ca3); (case ca1 => rfl); (case ca2 => rfl); (intro A3 c3 w3 ho3 hc3 hr3); (have HO3 := hid (show OwnT w3 w.heap.size A3 n c3 l by simpa using ho3)); (have HB3 := hid (Below.chg HB.out hc3 (fun q hq => (hO0.rowGe q hq).1))); (clear ho3 hc3 hr3 hO0 hRD hbs))
      | fail)
    obtain ⟨g3, hA3, _, _⟩ := HO3.out.head HN0.out
    subst hA3
    go_ret
    exact ⟨g3, c3, by simp, HO3.out, HB3.out⟩
  · obtain rfl : n = 0 := by omega
    have hl : l = [] := List.length_eq_zero_iff.1 hr.1
    subst hl
    clear hr h0 hn
    go_enter Tryz.func87, Tryz.ntmps87
    go_wp2_with fail
    go_ret
    exact ⟨_, _, rfl, HO.out, HB.out⟩
set_option maxRecDepth 100000 in
set_option maxHeartbeats 8000000 in
theorem Tab.clone (base th g : Nat) (n c : Nat) (L : List Tk) (w : World) (h : TAt w base th (some ⟨g, 0, none⟩) n c L) : Calls Tryz.prog 38 #[.pointer (some ⟨th, 0, none⟩)] w fun e w' => ∃ th' g' c', e = .returned (.pointer (some ⟨th', 0, none⟩)) ∧ TAt w' w.heap.size th' (some ⟨g', 0, none⟩) n c' L ∧ Below w.heap.size w w' := by
  have HT := hid h
  have t0 := h.cs.at0
  clear h
  go_enter Tryz.func38, Tryz.ntmps38
  go_wp2_with fail
  refine (Sls.cloneT g 0 n c L _ HT.out.rd (by have := HT.out.le; omega)).mono ?_
  rintro e w1 ⟨g', c', rfl, ho, hb⟩
  have HO := hid ho
  have HB := hid hb
  have HG : Hid (g' < w1.heap.size) := hid (ho.rowGe g' (by simp [rowOf])).2
  clear ho hb t0
  go_wp2_with fail
  go_ret
  refine ⟨_, _, _, rfl, ⟨Cs.alloc_new w1 140 [_], HO.out.alloc _, fun j hj => ?_, HT.out.le, HB.out.size⟩, HB.out.alloc HB.out.size _⟩
  simp [rowOf] at hj
  have := HG.out
  omega
theorem row1 {g' q : Nat} (hq : q ∈ [g']) {P : Nat → Prop} (h : P g') : P q := by
  simp at hq
  subst hq
  exact h
theorem zeroTk (w : World) : (zeroValue 60).run Tryz.prog w = .ok Tk.zero.val w := by kernel_rfl
theorem zeroCellsT (m : Nat) : (Builtin.zeroCells Tk.zero.val.cells m).toList = (List.replicate m Tk.zero).flatMap Tk.cells := by
  rw [madeT m rfl]
  rfl
theorem clear_rows (w : World) (b o m c : Nat) (ty : TypeId) (hm : 0 < m) (ht : w.there b o (m * 6)) : (Builtin.clear_ #[79] ty #[.slice (some ⟨b, o, none⟩) m c]).run Tryz.prog w = .ok (.tuple #[]) (w.setCells b o ((List.replicate m Tk.zero).flatMap Tk.cells)) := by
  have hl : ((List.replicate m Tk.zero).flatMap Tk.cells).length = m * 6 := by rw [flatG_length Tk.len]; simp
  have hst := run_storeCells_cells (P := Tryz.prog) b o ((List.replicate m Tk.zero).flatMap Tk.cells) 0 w (fun j hj => (ht j (by omega)).1) (fun j hj => (ht j (by omega)).2) (flatG_one Tk.one _)
  simp only [Nat.add_zero] at hst
  have hz := zeroCellsT m
  obtain ⟨m, rfl⟩ : ∃ k, m = k + 1 := ⟨m - 1, by omega⟩
  simp [Builtin.clear_, run_underlying Tryz.underlying79, zeroTk, hz, hst]
/-- A row while what is free is left out: i are written, j are read. -/
def DT (w : World) (base g n c : Nat) (L : List Tk) (i j : Nat) (wr : World) : Prop := ∃ R, OwnT wr base (some ⟨g, 0, none⟩) n c R ∧ R.take i = (L.take j).filter keep ∧ R.drop j = L.drop j ∧ Chg [g] w wr
theorem DT.below {w : World} {base g n c : Nat} {L : List Tk} {i j : Nat} {w1 w2 : World} (h : DT w base g n c L i j w1) (hb : Below w1.heap.size w1 w2) : DT w base g n c L i j w2 := by
  obtain ⟨R, h1, h2, h3, h4⟩ := h
  exact ⟨R, h1.below hb, h2, h3, h4.trans (Chg.below (F := []) hb) (by simp)⟩
theorem DT.skip {w : World} {base g n c : Nat} {L : List Tk} {i j : Nat} {w1 : World} (h : DT w base g n c L i j w1) (hj : j < L.length) (hk : keep (L.getD j Tk.zero) = false) : DT w base g n c L i (j + 1) w1 := by
  obtain ⟨R, h1, h2, h3, h4⟩ := h
  refine ⟨R, h1, ?_, ?_, h4⟩
  · rw [filter_step L hj, hk, h2]; simp
  · rw [← List.drop_drop, ← List.drop_drop, h3]
theorem DT.step {w : World} {base g n c : Nat} {L : List Tk} {i j : Nat} {w1 : World} (h : DT w base g n c L i j w1) (hl : L.length = n) (hj : j < L.length) (hij : i < j) (hk : keep (L.getD j Tk.zero) = true) : ∀ W, W = w1.setCells g (i * 6) (L.getD j Tk.zero).cells → DT w base g n c L (i + 1) (j + 1) W := fun W e => by
  obtain ⟨R, h1, h2, h3, h4⟩ := h
  subst e
  have hR := h1.len Tk.len (by decide)
  refine ⟨R.set i (L.getD j Tk.zero), h1.putAt Tk.len (by decide) (by omega) _, ?_, ?_, Chg.setsG _ _ h4 (Or.inl (by simp))⟩
  · rw [filter_step L hj, if_pos hk, ← h2, List.take_succ_eq_append_getElem (by simp; omega), List.take_set_of_le (Nat.le_refl _)]
    simp
  · rw [List.drop_set_of_lt (by omega), ← List.drop_drop, ← List.drop_drop, h3]
theorem DT.get {w : World} {base g n c : Nat} {L : List Tk} {i j : Nat} {w1 : World} (h : DT w base g n c L i j w1) (hl : L.length = n) (hj : j < L.length) : w1.rangeAt g (j * 6) (L.getD j Tk.zero).cells := by
  obtain ⟨R, h1, h2, h3, h4⟩ := h
  have hr := h1.range Tk.len (by decide) Tk.zero (j := j) (by omega)
  have e : R.getD j Tk.zero = L.getD j Tk.zero := by
    have e1 : (R.drop j)[0]? = (L.drop j)[0]? := by rw [h3]
    rw [List.getElem?_drop, List.getElem?_drop, Nat.add_zero] at e1
    simp [List.getD, e1]
  rwa [e] at hr
theorem DT.there {w : World} {base g n c : Nat} {L : List Tk} {i j : Nat} {w1 : World} (h : DT w base g n c L i j w1) {k : Nat} (hk : k < n) : w1.there g (k * 6) 6 := by
  obtain ⟨R, h1, _⟩ := h
  exact h1.there Tk.len (by decide) hk
theorem OwnT.thereAll {w : World} {base g n c : Nat} {R : List Tk} (h : OwnT w base (some ⟨g, 0, none⟩) n c R) {i : Nat} (hi : i ≤ n) : w.there g (i * 6) ((n - i) * 6) := fun t ht => by
  have hq : i + t / 6 < n := by omega
  have := h.there Tk.len (by decide) hq (t % 6) (by omega)
  have e : (i + t / 6) * 6 + t % 6 = i * 6 + t := by omega
  rwa [e] at this
theorem DT.fin {w : World} {base g n c : Nat} {L : List Tk} {i : Nat} {w1 : World} (h : DT w base g n c L i n w1) (hl : L.length = n) (hi : i < n) : ∀ W, W = w1.setCells g (i * 6) ((List.replicate (n - i) Tk.zero).flatMap Tk.cells) → OwnT W base (some ⟨g, 0, none⟩) i c (L.filter keep) ∧ Chg [g] w W := fun W e => by
  obtain ⟨R, h1, h2, h3, h4⟩ := h
  subst e
  refine ⟨?_, Chg.setsG _ _ h4 (Or.inl (by simp))⟩
  have hR := h1.len Tk.len (by decide)
  rw [show L.take n = L from List.take_of_length_le (by omega)] at h2
  have hlen : (L.filter keep).length = i := by rw [← h2, List.length_take]; omega
  have h5 := ownsRow_sets ((List.replicate (n - i) Tk.zero).flatMap Tk.cells) (i * 6) _ _ h1
  refine ⟨by rw [flatG_length Tk.len, hlen], ?_⟩
  rcases h5.2 with ⟨hv, _⟩ | ⟨g', cap, cur, hv, hb, hg, hnc, hcm, hcs, ht⟩
  · cases hv
  · injection hv with e1 e2 e3
    injection e1 with e1
    injection e1 with e1
    subst e1 e3
    refine .inr ⟨g, c, cur, rfl, hb, hg, by omega, hcm, hcs, ?_⟩
    have e : i * 6 = min (i * 6) (n * 6) := by omega
    rw [e, ← List.take_take, ht]
    have hfl : (R.flatMap Tk.cells).length = n * 6 := by rw [flatG_length Tk.len, hR]
    have hsl : ((List.replicate (n - i) Tk.zero).flatMap Tk.cells).length = (n - i) * 6 := by rw [flatG_length Tk.len]; simp
    have h6 : (setsAt (R.flatMap Tk.cells) (i * 6) ((List.replicate (n - i) Tk.zero).flatMap Tk.cells)).take (i * 6) = (R.flatMap Tk.cells).take (i * 6) := by
      apply List.ext_getElem?
      intro t
      by_cases htt : t < i * 6
      · rw [List.getElem?_take_of_lt htt, List.getElem?_take_of_lt htt, setsAt_get _ _ _ _ (by omega), if_neg (by omega)]
      · rw [List.getElem?_take_eq_none (by omega), List.getElem?_take_eq_none (by omega)]
    rw [h6, ← h2]
    have e2 : R.flatMap Tk.cells = (R.take i).flatMap Tk.cells ++ (R.drop i).flatMap Tk.cells := by rw [← List.flatMap_append, List.take_append_drop]
    have e3 : ((R.take i).flatMap Tk.cells).length = i * 6 := by rw [flatG_length Tk.len, List.length_take]; congr 1; omega
    rw [e2, ← e3, List.take_left']
    rfl
set_option maxRecDepth 100000 in
set_option maxHeartbeats 8000000 in
theorem firstFree (L : List Tk) : (∀ j, j < L.length → (L.getD j Tk.zero).s ≠ 0) ∨ ∃ f, f < L.length ∧ (L.getD f Tk.zero).s = 0 ∧ ∀ j, j < f → (L.getD j Tk.zero).s ≠ 0 := by
  rcases lf_spec L with ⟨_, h⟩ | ⟨j, h1, _, h2, h3⟩
  · exact .inl h
  · exact .inr ⟨j, h1, h2, h3⟩
set_option maxRecDepth 100000 in
set_option maxHeartbeats 8000000 in
theorem Tab.deletef (base g n c : Nat) (L : List Tk) (w : World) (ho : OwnT w base (some ⟨g, 0, none⟩) n c L) (hn : n ≤ 32) :
    Calls Tryz.prog 92 #[.slice (some ⟨g, 0, none⟩) n c, .func (.func 93) #[] #[]] w fun e w' => ∃ m, e = .returned (.slice (some ⟨g, 0, none⟩) m c) ∧ OwnT w' base (some ⟨g, 0, none⟩) m c (L.filter keep) ∧ Chg [g] w w' ∧ m ≤ n := by
  have hl := ho.len Tk.len (by decide)
  have HL := hid hl
  have HO := hid ho
  have HCAP := hid ho.cap
  have hni : (n : Int) ≤ 32 := by omega
  rcases firstFree L with hf | ⟨f, hf1, hf2, hf3⟩
  · have HA := hid hf
    have HFI := hid (show (if n < n then ((n : Nat) : Int) else -1) = -1 by rw [if_neg (by omega)])
    clear ho hl hf
    go_enter Tryz.func92, Tryz.ntmps92
    go_wp2_with fail
    refine (Tab.indexfT _ n c L _ (HO.out.rd Tk.len (by decide) _) hn n (Nat.le_refl _) (fun j hj => HA.out j (by have := HL.out; omega)) (by intro h; omega)).mono ?_
    rw [HFI.out]
    rintro e w1 ⟨rfl, hb⟩
    have HB := hid hb
    have HO1 := hid (HO.out.below hb)
    clear hb
    go_wp2_with fail
    go_ret
    have e1 : L.filter keep = L := by
      rw [List.filter_eq_self]
      intro y hy
      obtain ⟨k, hk⟩ := List.mem_iff_getElem?.1 hy
      have hkl := (List.getElem?_eq_some_iff.1 hk).1
      have := HA.out k hkl
      rw [show L.getD k Tk.zero = y by simp [List.getD, hk]] at this
      simpa [keep] using this
    rw [e1]
    exact ⟨n, rfl, HO1.out, Chg.below HB.out, Nat.le_refl _⟩
  · have HFI := hid (show (if f < n then ((f : Nat) : Int) else -1) = f by rw [if_pos (by omega)])
    have HF1 := hid (show f < n by omega)
    have HF2 := hid hf2
    have HF3 := hid hf3
    have HT0 : Hid ((L.take f).filter keep = L.take f) := hid (by
      rw [List.filter_eq_self]
      intro y hy
      obtain ⟨k, hk⟩ := List.mem_iff_getElem?.1 hy
      have hkf : k < f := by
        rcases Nat.lt_or_ge k f with h' | h'
        · exact h'
        · rw [List.getElem?_take_eq_none h'] at hk; cases hk
      rw [List.getElem?_take_of_lt hkf] at hk
      have := hf3 k hkf
      rw [show L.getD k Tk.zero = y by simp [List.getD, hk]] at this
      simpa [keep] using this)
    clear ho hl hf1 hf2 hf3
    go_enter Tryz.func92, Tryz.ntmps92
    go_wp2_with fail
    refine (Tab.indexfT _ n c L _ (HO.out.rd Tk.len (by decide) _) hn f (by have := HF1.out; omega) HF3.out (by intro _; exact HF2.out)).mono ?_
    rw [HFI.out]
    rintro e w1 ⟨rfl, hb⟩
    have HD0 : Hid (DT w base g n c L f (f + 1) w1) := hid (by
      have h0 : DT w base g n c L f f w1 := ⟨L, HO.out.below hb, HT0.out.symm, rfl, Chg.below hb⟩
      exact h0.skip (by have := HL.out; have := HF1.out; omega) (by have h := HF2.out; generalize L.getD f Tk.zero = y at h; simp [keep, h]))
    have HLE0 : Hid (f < f + 1 ∧ f + 1 ≤ n) := hid (by have := HF1.out; omega)
    clear hb HO
    have hkl : (f : Int) + 1 ≤ n := by have := HF1.out; omega
    have hl1 : ((f : Int) == -1) = false := by rw [beq_eq_false_iff_ne]; omega
    go_wp2_with fail
    go_loopg [5, 6] n (fun s i j wr => ∃ ii jj : Nat, i = .int .i64 ii ∧ j = .int .i64 jj ∧ ii < jj ∧ jj ≤ n ∧ n - jj ≤ s ∧ DT w base g n c L ii jj wr)
    case atStart => exact ⟨f, f + 1, rfl, by go_num, by omega, HLE0.out.2, by omega, HD0.out⟩
    case round =>
      obtain ⟨i, j, rfl, rfl, hij, hjn, hs, hd⟩ := hrel
      have HS := hid hs
      have HD := hid hd
      have HIJ := hid (And.intro hij hjn)
      clear hs hd
      by_cases hjl : j < n
      · obtain ⟨p0, p1, p2, p3, p4, p5⟩ := Tk.of _ (HD.out.get HL.out (by have := HL.out; omega))
        obtain ⟨y, hy⟩ : ∃ y, L.getD j Tk.zero = y := ⟨_, rfl⟩
        rw [hy] at p0 p1 p2 p3 p4 p5
        have HY := hid hy
        have hki : (j : Int) < n := by omega
        have hk0 : (0 : Int) ≤ j := by omega
        have hki' : (i : Int) < n := by omega
        have hk0' : (0 : Int) ≤ i := by omega
        have HJL := hid hjl
        clear hij hjn hy hjl
        have hal := (Below.refl wr.heap.size wr).alloc (Nat.le_refl _) (.cells #[.int .i64 y.i, .int .u8 y.s, .int .i64 y.c, .int .u32 y.w, .int .u64 y.n, .int .i64 y.l] 60)
        have HDa := hid (HD.out.below hal)
        have HYv : Hid (Cs (wr.alloc (.cells #[.int .i64 y.i, .int .u8 y.s, .int .i64 y.c, .int .u32 y.w, .int .u64 y.n, .int .i64 y.l] 60)) wr.heap.size y.cells) := hid (Tk.new wr 60 y)
        clear hal
        go_upto_region 8 with fail
        generalize (wr.alloc (.cells #[.int .i64 y.i, .int .u8 y.s, .int .i64 y.c, .int .u32 y.w, .int .u64 y.n, .int .i64 y.l] 60)) = W1 at HDa HYv ⊢
        clear p0 p1 p2 p3 p4 p5
        obtain ⟨x0, x1, x2, x3, x4, x5⟩ := Tk.at y HYv.out
        go_wp2_with fail
        refine (Task.freeT y _).mono ?_
        rintro e w2 ⟨rfl, hb⟩
        have HD2 := hid (HDa.out.below hb)
        have HYv2 := hid (HYv.out.below hb)
        clear hb x0 x1 x2 x3 x4 x5
        cases hk : (y.s == 0) with
        | true =>
          have HD3 : Hid (DT w base g n c L i (j + 1) w2) := hid (HD2.out.skip (by have := HL.out; have := HJL.out; omega) (by rw [HY.out]; simp [keep, hk]))
          clear hk
          go_wp2_with fail
          go_roundg (n - (j + 1))
          case measure => have := HS.out; have := HJL.out; omega
          case rel => exact ⟨i, j + 1, rfl, by go_num, by have := HIJ.out; omega, by have := HJL.out; omega, Nat.le_refl _, HD3.out⟩
        | false =>
          have HST := hid (fun (W : World) (e : W = w2.setCells g (i * 6) y.cells) => HD2.out.step HL.out (by have := HL.out; have := HJL.out; omega) HIJ.out.1 (by rw [HY.out]; simp [keep, hk]) W (by rw [HY.out]; exact e))
          clear hk
          obtain ⟨x0, x1, x2, x3, x4, x5⟩ := Tk.at y HYv2.out
          have HTH : Hid (w2.there g (i * 6) 6) := hid (HD2.out.there (by have := HIJ.out; have := HJL.out; omega))
          go_wp2_with (first | ((with_reducible refine wpList_put_g 60 y.cells infoTask rfl (.tmp 33) (.tmp 32) rfl g (i * 6) HTH.out ?dfa ?dfb ?dfc ?dfd ?dfe); (case dfa => rfl); (case dfb => rfl); (case dfc => rfl); (case dfd => rfl); (intro W2 hW2); (have HD3 := hid (HST.out W2 hW2)); (clear hW2)) | fail)
          go_roundg (n - (j + 1))
          case measure => have := HS.out; have := HJL.out; omega
          case rel => exact ⟨i + 1, j + 1, by go_num, by go_num, by have := HIJ.out; omega, by have := HJL.out; omega, Nat.le_refl _, HD3.out⟩
      · obtain rfl : j = n := by omega
        have HT : Hid (wr.there g (i * 6) ((j - i) * 6)) := hid (by obtain ⟨R, h1, _⟩ := HD.out; exact h1.thereAll (by omega))
        have hrun := clear_rows wr g (i * 6) (j - i) (c - i) 0 (by omega) HT.out
        obtain ⟨W, hW⟩ : ∃ W, W = wr.setCells g (i * 6) ((List.replicate (j - i) Tk.zero).flatMap Tk.cells) := ⟨_, rfl⟩
        have HOW := hid (HD.out.fin HL.out (by omega) W hW)
        rw [← hW] at hrun
        have hki : ¬ (j : Int) < j := by omega
        have hin : (i : Int) < j := by omega
        have hin' : (i : Int) ≤ j := by omega
        have hi0 : (0 : Int) ≤ i := by omega
        have hic : (i : Int) ≤ c := by have := HCAP.out; omega
        have hic0 : ¬ c - i = 0 := by have := HCAP.out; omega
        have hic1 : ((c - i) == 0) = false := by rw [beq_eq_false_iff_ne]; exact hic0
        have HIL := hid (show i ≤ j by omega)
        clear hW hij hjn
        go_wp2_with fail
        clear hrun
        go_wp2_with fail
        go_ret
        exact ⟨i, by simp, HOW.out.1, HOW.out.2, HIL.out⟩
set_option maxRecDepth 100000 in
set_option maxHeartbeats 8000000 in
theorem Tab.tasks (base th g : Nat) (n c : Nat) (L : List Tk) (w : World) (h : TAt w base th (some ⟨g, 0, none⟩) n c L) : Calls Tryz.prog 44 #[.pointer (some ⟨th, 0, none⟩)] w fun e w' => ∃ g' m c', e = .returned (.slice (some ⟨g', 0, none⟩) m c') ∧ OwnT w' w.heap.size (some ⟨g', 0, none⟩) m c' (L.filter keep) ∧ Below w.heap.size w w' ∧ m ≤ n := by
  have HT := hid h
  have t0 := h.cs.at0
  clear h
  go_enter Tryz.func44, Tryz.ntmps44
  go_wp2_with fail
  refine (Sls.cloneT g 0 n c L _ HT.out.rd (by have := HT.out.le; omega)).mono ?_
  rintro e w1 ⟨g', c', rfl, ho, hb⟩
  have HO := hid ho
  have HB := hid hb
  clear ho hb t0
  go_wp2_with fail
  refine (Tab.deletef w.heap.size g' n c' L _ HO.out HT.out.le).mono ?_
  rintro e w2 ⟨m, rfl, ho, hc, hm⟩
  have HO2 := hid ho
  have HM := hid hm
  have HB2 : Hid (Below w.heap.size w w2) := hid (HB.out.trans (hc.toBelow HB.out.size (fun q hq => row1 hq (P := fun q => w.heap.size ≤ q) (HO.out.rowGe g' (by simp [rowOf])).1)))
  clear ho hc hm
  go_wp2_with fail
  go_ret
  exact ⟨g', m, c', rfl, HO2.out, HB2.out, HM.out⟩
end

end Go.Proofs.YtegohmeapamoaaaGreatDoor

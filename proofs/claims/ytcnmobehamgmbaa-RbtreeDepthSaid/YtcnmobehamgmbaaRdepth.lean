/- RbtreeDepth: the walk. -/
import Derived.Test.YtcnmobehamgmbaaRbO
import Derived.Test.YtcnmobehamgmbaaOpenA
namespace Go.Proofs.Ytcnmobehamgmbaa
open Go.RowKit

theorem Rdepth.away (A : Option Addr) (n c : Nat) (hn : 300 < n) (hm : n ≤ 9223372036854775807) (w : World) :
    Calls Try.prog 7 #[.slice A n c] w (Ans (.bool true) w) := by
  have h1 : (300 : Int) < n := by omega
  go_enter Try.func7, Try.ntmps7
  go_wp2_with fail
  refine (Law6.awake _).mono ?_
  rintro e w1 ⟨rfl, hb⟩
  have HB := hid hb
  clear hb
  go_wp2_with fail
  go_ret
  exact ⟨rfl, HB.out⟩

/-- A tree while a law goes on. -/
def Gw (w : World) (th : Nat) (t : Tr Int) (w' : World) : Prop := Grove w.heap.size th t w' ∧ Below w.heap.size w w'
theorem Gw.below {w w1 w2 : World} {th : Nat} {t : Tr Int} (h : Gw w th t w1) (hb : Below w1.heap.size w1 w2) : Gw w th t w2 := ⟨h.1.below hb, below_on h.2 hb⟩
theorem Gw.drew {w w1 : World} {th : Nat} {t : Tr Int} (h : Gw w th t w1) : Gw w th t w1.drew := h.below (Below.refl _ _).drew
theorem Gw.act {w w1 w2 : World} {th : Nat} {t t' : Tr Int} (h : Gw w th t w1) (hg : Grove w.heap.size th t' w2) (hc : Chg (th :: t.blocks) w1 w2) : Gw w th t' w2 :=
  ⟨hg, h.2.trans (hc.toBelow h.2.size (fun g hg => by
    rcases List.mem_cons.1 hg with rfl | h1
    · exact h.1.2.2.2.1
    · exact h.1.2.2.2.2 g h1))⟩
/-- What an act does to a list. -/
def act1 (o : Bool) (x : Int) (L : List Int) : List Int := if o then delL x L else if x ∈ L then L else insL x L
theorem act1_len (o : Bool) (x : Int) (L : List Int) : (act1 o x L).length ≤ L.length + 1 := by
  unfold act1
  split
  · have := length_delL x L; omega
  · split
    · omega
    · rw [length_insL]; omega

/-- What the test of the depth reckons. -/
theorem depth_nums (d l : Nat) (hd : d ≤ 301) (hl : l ≤ 301) (h : 2 ^ ((d + 1) / 2) ≤ l + 1) : ∃ M P : Int, IntKind.i64.wrap ((d : Int) + 1) = (d : Int) + 1 ∧ IntKind.i64.wrap (((d : Int) + 1).tdiv 2) = M ∧ 0 ≤ M ∧ M ≤ 64 ∧ IntKind.i64.wrap (2 ^ M.toNat) = P ∧ decide ((l : Int) + 1 < P) = false ∧ IntKind.i64.wrap ((l : Int) + 1) = (l : Int) + 1 := by
  have hm : (d + 1) / 2 ≤ 9 := by
    rcases Nat.lt_or_ge 9 ((d + 1) / 2) with h1 | h1
    · have : 2 ^ 10 ≤ 2 ^ ((d + 1) / 2) := Nat.pow_le_pow_right (by omega) h1
      omega
    · exact h1
  have e : ((d : Int) + 1).tdiv 2 = (((d + 1) / 2 : Nat) : Int) := by rw [Int.tdiv_eq_ediv_of_nonneg (by omega)]; omega
  have hp : ((2 ^ ((d + 1) / 2) : Nat) : Int) = (2 : Int) ^ ((d + 1) / 2) := by simp
  refine ⟨(((d + 1) / 2 : Nat) : Int), (2 : Int) ^ ((d + 1) / 2), by rw [IntKind.wrap_i64]; omega, by rw [e, IntKind.wrap_i64]; omega, by omega, by omega, ?_, ?_, by rw [IntKind.wrap_i64]; omega⟩
  · have hpos : (0 : Int) ≤ ((2 ^ ((d + 1) / 2) : Nat) : Int) := Int.natCast_nonneg _
    rw [Int.toNat_natCast, ← hp, IntKind.wrap_i64]; omega
  · rw [decide_eq_false_iff_not, ← hp]; omega

set_option maxRecDepth 100000 in
set_option maxHeartbeats 4000000 in
theorem Rdepth.core (A : Option Addr) (n c : Nat) (ps : List (Bool × Int)) (hn : n ≤ 300) (w : World) (h : RdA w A n ps) :
    Calls Try.prog 7 #[.slice A n c] w (Ans (.bool true) w) := by
  have HR := hid h
  have h1 : (n : Int) ≤ 300 := by omega
  clear h
  go_enter Try.func7, Try.ntmps7
  go_wp2_with fail
  refine (Law6.awake _).mono ?_
  rintro e w1 ⟨rfl, hb⟩
  have HB := hid hb
  clear hb
  go_wp2_with fail
  refine (Law6.new _).mono ?_
  rintro e w2 ⟨th, rfl, hth, ht, hb⟩
  have HG : Hid (Gw w th .nil w2) := hid ⟨News.grove ht (Nat.le_trans HB.out.size hth), below_on HB.out hb⟩
  clear hth ht hb
  go_wp2_with fail
  go_loopg [14] n (fun s a wr => ∃ (k : Nat) (t : Tr Int), a = .int .i64 k ∧ k ≤ n ∧ s = n - k ∧ t.list.length ≤ k ∧ Gw w th t wr)
  case atStart => exact ⟨0, .nil, rfl, Nat.zero_le _, by omega, by simp [Tr.list], HG.out⟩
  case round =>
    obtain ⟨k, t, rfl, hk, hs, hl, hg⟩ := hrel
    have HS := hid hs
    have HL := hid hl
    have HGr := hid hg
    clear hs hl hg
    by_cases hkn : k < n
    · obtain ⟨b, off, rfl, hbs, hc⟩ := HR.out.2 0 (by omega)
      obtain ⟨c0, c1⟩ := hc k hkn
      have c0 := keep1 HGr.out.2 c0
      have c1 := keep1 HGr.out.2 c1
      generalize (ps.getD k (false, 0)).1 = o at c0
      generalize (ps.getD k (false, 0)).2 = x at c1
      have hki : (k : Int) < n := by omega
      clear hc
      cases o with
      | true =>
        go_wp2_with fail
        refine (Gr.delete w.heap.size th t x _ (HGr.out.below ((Below.refl _ _).alloc (Nat.le_refl _) _)).1 (by have := HGr.out.2.size; simp; omega) (by have := HL.out; omega)).mono ?_
        rintro e w3 ⟨t', rfl, hl', hg', hch, _⟩
        have HG3 := hid ((HGr.out.below ((Below.refl _ _).alloc (Nat.le_refl _) _)).act hg' hch)
        have HL3 : Hid (t'.list.length ≤ k + 1) := hid (by
          have h1 := act1_len true x t.list
          have h2 : t'.list = act1 true x t.list := hl'
          rw [h2]
          have := HL.out
          omega)
        clear hl' hg' hch c0 c1
        have hdl : t'.depth ≤ 301 := by have := Tr.depth_le t'; have := HL3.out; omega
        have hll : t'.list.length ≤ 301 := by have := HL3.out; omega
        have HNU := hid (depth_nums t'.depth t'.list.length hdl hll HG3.out.1.2.1.deep)
        obtain ⟨M, P, e1, e2, M0, M1, e3, e4, e5⟩ := HNU.out
        have d0 : (0 : Int) ≤ t'.depth := by omega
        have d1 : (t'.depth : Int) ≤ 301 := by omega
        have l1 : (t'.list.length : Int) ≤ 301 := by omega
        clear hdl hll
        go_wp2_with fail
        go_region_held3 (fun w' => Gw w th t' w')
          (first | with_reducible exact HG3.out.drew | with_reducible exact (by assumption : Gw w th t' _).below hb5)
          (first
            | (go_at_call 36; refine (Rb.depth th t' _ (by assumption : Gw w th t' _).1.1 (by have := HL3.out; omega)).mono ?_; rintro e w5 ⟨rfl, hb5⟩)
            | (go_at_call 37; refine (Rb.len th t' _ (by assumption : Gw w th t' _).1.1).mono ?_; rintro e w6 ⟨rfl, hb5⟩))
        all_goals
          have HG6 := hid (by assumption : Gw w th t' w6)
          clear e1 e2 M0 M1 e3
          go_wp2_with fail
          go_roundg (n - (k + 1))
          case measure => have := HS.out; omega
          case rel => exact ⟨k + 1, t', by go_num, by omega, rfl, HL3.out, HG6.out⟩
      | false =>
        go_wp2_with fail
        refine (Gr.insert w.heap.size th t x _ (HGr.out.below ((Below.refl _ _).alloc (Nat.le_refl _) _)).1 (by have := HGr.out.2.size; simp; omega) (by have := HL.out; omega)).mono ?_
        rintro e w3 ⟨t', rfl, hl', hg', hch, _⟩
        have HG3 := hid ((HGr.out.below ((Below.refl _ _).alloc (Nat.le_refl _) _)).act hg' hch)
        have HL3 : Hid (t'.list.length ≤ k + 1) := hid (by
          have h1 := act1_len false x t.list
          have h2 : t'.list = act1 false x t.list := hl'
          rw [h2]
          have := HL.out
          omega)
        clear hl' hg' hch c0 c1
        have hdl : t'.depth ≤ 301 := by have := Tr.depth_le t'; have := HL3.out; omega
        have hll : t'.list.length ≤ 301 := by have := HL3.out; omega
        have HNU := hid (depth_nums t'.depth t'.list.length hdl hll HG3.out.1.2.1.deep)
        obtain ⟨M, P, e1, e2, M0, M1, e3, e4, e5⟩ := HNU.out
        have d0 : (0 : Int) ≤ t'.depth := by omega
        have d1 : (t'.depth : Int) ≤ 301 := by omega
        have l1 : (t'.list.length : Int) ≤ 301 := by omega
        clear hdl hll
        go_wp2_with fail
        go_region_held3 (fun w' => Gw w th t' w')
          (first | with_reducible exact HG3.out.drew | with_reducible exact (by assumption : Gw w th t' _).below hb5)
          (first
            | (go_at_call 36; refine (Rb.depth th t' _ (by assumption : Gw w th t' _).1.1 (by have := HL3.out; omega)).mono ?_; rintro e w5 ⟨rfl, hb5⟩)
            | (go_at_call 37; refine (Rb.len th t' _ (by assumption : Gw w th t' _).1.1).mono ?_; rintro e w6 ⟨rfl, hb5⟩))
        all_goals
          have HG6 := hid (by assumption : Gw w th t' w6)
          clear e1 e2 M0 M1 e3
          go_wp2_with fail
          go_roundg (n - (k + 1))
          case measure => have := HS.out; omega
          case rel => exact ⟨k + 1, t', by go_num, by omega, rfl, HL3.out, HG6.out⟩
    · obtain rfl : k = n := by omega
      have hki : ¬ (k : Int) < k := by omega
      go_wp2_with fail
      go_ret
      exact ⟨rfl, HGr.out.2⟩

theorem Rdepth.law (A : Option Addr) (n c : Nat) (ps : List (Bool × Int)) (w : World) (h : RdA w A n ps ∧ n ≤ 9223372036854775807) :
    Calls Try.prog 7 #[.slice A n c] w (Ans (.bool true) w) := by
  by_cases hn : n ≤ 300
  · exact Rdepth.core A n c ps hn w h.1
  · exact Rdepth.away A n c (by omega) h.2 w

end Go.Proofs.Ytcnmobehamgmbaa

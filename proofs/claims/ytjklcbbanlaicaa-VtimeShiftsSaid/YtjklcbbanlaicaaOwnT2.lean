/- Two slices of times that a call itself has made, and append onto each. -/
import Derived.Test.YtjklcbbanlaicaaOwnT
import Derived.Test.YtjklcbbanlaicaaRefD
namespace Go.Proofs.Ytjklcbbanlaicaa
open Go.RowKit

theorem OwnT.below {w w' : World} {base : Nat} {A : Option Addr} {n c : Nat} {zs : List Int} (h : OwnT w base A n c zs) (hb : Below w.heap.size w w') : OwnT w' base A n c zs := by
  obtain ⟨h1, h2⟩ := h
  refine ⟨h1, ?_⟩
  rcases h2 with h2 | ⟨g, cap, cur, hv, hg, hh, r⟩
  · exact .inl h2
  · refine .inr ⟨g, cap, cur, hv, hg, ?_, r⟩
    rw [hb.block g ?_]
    · exact hh
    · rcases Nat.lt_or_ge g w.heap.size with h1 | h1
      · exact h1
      · rw [Array.getElem?_eq_none h1] at hh; cases hh

/-- Two of them, on rows of their own. -/
def TwoT (w : World) (base : Nat) (A : Option Addr) (n c : Nat) (zs : List Int) (B : Option Addr) (m d : Nat) (ys : List Int) : Prop :=
  OwnT w base A n c zs ∧ OwnT w base B m d ys ∧ ∀ g, (Value.slice A n c).ownBlock = some g → (Value.slice B m d).ownBlock ≠ some g
theorem TwoT.below {w w' : World} {base : Nat} {A B : Option Addr} {n c m d : Nat} {zs ys : List Int} (h : TwoT w base A n c zs B m d ys) (hb : Below w.heap.size w w') : TwoT w' base A n c zs B m d ys := ⟨h.1.below hb, h.2.1.below hb, h.2.2⟩
theorem TwoT.alloc {w : World} {base : Nat} {A B : Option Addr} {n c m d : Nat} {zs ys : List Int} (h : TwoT w base A n c zs B m d ys) (o : Obj) : TwoT (w.alloc o) base A n c zs B m d ys := h.below ((Below.refl _ _).alloc (Nat.le_refl _) o)
theorem TwoT.flip {w : World} {base : Nat} {A B : Option Addr} {n c m d : Nat} {zs ys : List Int} (h : TwoT w base A n c zs B m d ys) : TwoT w base B m d ys A n c zs :=
  ⟨h.2.1, h.1, fun g hg e => h.2.2 g e hg⟩
theorem TwoT.nil (w : World) (base : Nat) : TwoT w base none 0 0 [] none 0 0 [] := ⟨OwnT.nil _ _, OwnT.nil _ _, fun g hg => by simp [Value.ownBlock] at hg⟩

theorem wpList_append_two {ops : Array Oper} {rest : List Oper} {o : Oper} {a : Act} {Q : Exit → Act → World → Prop} (w : World) (hgd : o.guard = none) (s x : Operand)
    (ho : o.op = .call { callee := .builtin .append, args := #[s, x], argTypes := #[65, 65] })
    (base : Nat) (A : Option Addr) (n c : Nat) (zs : List Int) (B : Option Addr) (m k : Nat) (ys : List Int) (hs : a.eval s = .slice A n c) (hown : TwoT w base A n c zs B m k ys) (b : Nat) (d : Int) (hx : a.eval x = .slice (some ⟨b, 0, none⟩) 1 1)
    (hcell : w.cell? ⟨b, 0, none⟩ = some (.int .u64 d)) (hn : n ≤ 4000000) (hbase : base ≤ w.heap.size)
    (h : ∀ A' c' w', TwoT w' base A' (n + 1) c' (zs ++ [d]) B m k ys → w.grownBy w' (Value.slice A n c).ownBlock → wpList Try.prog ops Q rest (a.put o.dst (.slice A' (n + 1) c')) w') : wpList Try.prog ops Q (o :: rest) a w := by
  obtain ⟨i0, hi, hz0, hz1, hz2⟩ := info_parts infoTime
  refine wpList_append_lies w hgd s x 65 ho base 54 i0 (.int .u64 0) 1 8 Try.underlying65 hi hz0 hz1 hz2 rfl (by decide) (.slice A n c) n (zs.map (Value.int .u64)) hs hown.1
    ⟨b, 0, none⟩ 1 1 [.int .u64 d] hx rfl ?_ ?_ (by decide) (by unfold maxLen; omega) (by omega) hbase _ rfl ?_
  · intro j u hj
    match j, hj with
    | 0, hj => simp at hj; subst hj; simpa [Addr.add] using hcell
  · intro u hu; simp at hu; subst hu; rfl
  · intro g cap w' h2 h3 h4 h5
    refine h _ _ w' ⟨by unfold OwnT; simpa using h2, ?_, ?_⟩ h3
    · refine World.ownsRow.kept hown.2.1 h3 ?_
      rcases hb : (Value.slice B m k).ownBlock with _ | q
      · exact .inl rfl
      · refine .inr (fun e => ?_)
        exact hown.2.2 q e.symm hb
    · intro q hq e
      simp only [Value.ownBlock] at hq
      injection hq with hq
      subst hq
      rcases h4 with h4 | h4
      · exact hown.2.2 _ h4 e
      · have := (World.ownsRow.lt hown.2.1 _ e).2
        omega

end Go.Proofs.Ytjklcbbanlaicaa

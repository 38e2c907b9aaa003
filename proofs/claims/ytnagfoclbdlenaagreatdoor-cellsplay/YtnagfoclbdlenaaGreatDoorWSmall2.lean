/- append onto a row of rows of the call's own: a law for the walk; synodallaw4's small, size, pick: contracts. -/
import Derived.Test.YtnagfoclbdlenaaGreatDoorWSmall
namespace Go.Proofs.YtnagfoclbdlenaaGreatDoor
open Go.RowKit

theorem wpList_append_rows {w : World} {ops : Array Oper} {rest : List Oper} {o : Oper} {a : Act} {Q : Exit → Act → World → Prop} (hgd : o.guard = none) (s x : Operand)
    (ho : o.op = .call { callee := .builtin .append, args := #[s, x], argTypes := #[65, 65] }) (base : Nat) (v : Value) (vs : List Value) (nx : Nat) (hs : a.eval s = v) (hown : w.ownsRow base 38 1 v nx vs)
    (ao : Option Addr) (m c : Nat) (us : List Value) (hx : a.eval x = .slice ao m c) (hm : us.length = m) (hus : ∀ i u, us[i]? = some u → ∃ ad, ao = some ad ∧ w.cell? (ad.add i) = some u) (hone : ∀ u ∈ us, u.oneCell' = true) (hc : ao = none → c = 0) (hl : nx + m ≤ 1000000000) (hb : base ≤ w.heap.size)
    (h : ∀ ao' cap' w', w'.ownsRow base 38 1 (.slice ao' (nx + m) cap') (nx + m) (vs ++ us) → Kept base (fun k => v.ownBlock = some k) w w' → ((Value.slice ao' (nx + m) cap').ownBlock = v.ownBlock ∨ (Value.slice ao' (nx + m) cap').ownBlock = some w.heap.size) → wpList Tryz.prog ops Q rest (a.put o.dst (.slice ao' (nx + m) cap')) w') :
    wpList Tryz.prog ops Q (o :: rest) a w := by
  obtain ⟨i0, hi, hz0, hz1, hz2⟩ := info_parts Tryz.info27
  cases ao with
  | none =>
    obtain rfl : us = [] := by
      cases us with
      | nil => rfl
      | cons u us => obtain ⟨ad, e, _⟩ := hus 0 u rfl; cases e
    obtain rfl := hc rfl
    obtain rfl : m = 0 := hm.symm
    obtain ⟨aov, capv, rfl⟩ : ∃ aov capv, v = .slice aov nx capv := by
      rcases hown.2 with ⟨rfl, h0⟩ | ⟨gb, cap2, cur, rfl, _⟩
      · exact ⟨none, 0, by rw [h0]⟩
      · exact ⟨_, cap2, rfl⟩
    refine wpList_append_own_none hgd s x 65 ho base 38 i0 1 Tryz.underlying65 hi _ _ _ hs hown hx ?_
    exact h aov capv w (by simpa using hown) (Kept.refl _ _ _) (Or.inl rfl)
  | some ad =>
    refine wpList_append_own_at _ hgd s x 65 ho base 38 i0 (.slice none 0 0) 1 24 Tryz.underlying65 hi hz0 hz1 hz2 rfl (by decide) _ _ _ hs hown ad m c us hx (by simp [hm]) (fun j u hj => by obtain ⟨ad', e, hcell⟩ := hus j u hj; cases e; exact hcell) hone (by unfold maxLen; omega) (by omega) hb ?_
    intro v' w' own' g' _ hat
    obtain ⟨ao', cap', rfl⟩ : ∃ ao' cap', v' = .slice ao' (nx + m) cap' := by
      rcases own'.2 with ⟨rfl, h0⟩ | ⟨gb, cap2, cur, rfl, _⟩
      · exact ⟨none, 0, by rw [h0]⟩
      · exact ⟨_, cap2, rfl⟩
    refine h ao' cap' w' own' ⟨(Below.refl _ _).grown g' hb (fun k hk => (hown.lt k hk).1), fun k hk hn => ?_⟩ hat
    obtain ⟨_, _, _, _, hold⟩ := g'
    exact hold k hk (fun e => hn e.symm)
/-- a slice of one value that was just built. -/
theorem built_one {w : World} {u : Value} {t : TypeId} : ∀ i x, [u][i]? = some x → ∃ ad, some (⟨w.heap.size, 0, none⟩ : Addr) = some ad ∧ (w.alloc (.cells #[u] t)).cell? (ad.add i) = some x :=
  fun i x hi => ⟨_, rfl, news_at i x (by simpa using hi)⟩
theorem rows_cells {w : World} {base : Nat} {ao : Option Addr} {n cap m : Nat} {vs : List Value} (h : w.ownsRow base 38 1 (.slice ao n cap) m vs) : ∀ i u, vs[i]? = some u → ∃ ad, ao = some ad ∧ w.cell? (ad.add i) = some u := by
  intro i u hi
  have hl := (List.getElem?_eq_some_iff.1 hi).1
  have h1 := h.1
  rcases h.2 with ⟨e, h0⟩ | ⟨g, cap', cur, e, _⟩
  · omega
  · cases e
    have hc := h.cellAt i (by omega)
    refine ⟨_, rfl, ?_⟩
    rw [Addr.add_lit]
    simpa using hc.trans hi

theorem row_nil {w : World} {base : Nat} {e : TypeId} {z : Nat} {ao : Option Addr} {n cap m : Nat} {vs : List Value} (h : w.ownsRow base e z (.slice ao n cap) m vs) : ao = none → cap = 0 := by
  intro e0
  rcases h.2 with ⟨e1, _⟩ | ⟨g, cap', cur, e1, _⟩
  · cases e1; rfl
  · cases e1; cases e0
/-- what small leaves of rows. -/
def smallOf (xs : List (List Nat)) : List (List Nat) := (xs.take 8).filter fun x => decide (x.length ≤ 300)
theorem smallOf_len (xs : List (List Nat)) : (smallOf xs).length ≤ 8 := Nat.le_trans (List.length_filter_le _ _) (by rw [List.length_take]; omega)
theorem smallOf_mem {xs : List (List Nat)} : ∀ x ∈ smallOf xs, x.length ≤ 300 ∧ x ∈ xs := fun x hx => by
  have h := List.mem_filter.1 hx
  exact ⟨by simpa using h.2, List.mem_of_mem_take h.1⟩

end Go.Proofs.YtnagfoclbdlenaaGreatDoor

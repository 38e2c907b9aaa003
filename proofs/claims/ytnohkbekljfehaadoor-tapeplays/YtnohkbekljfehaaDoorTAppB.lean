/- append onto a row of the call's own, the source bytes that may be nil: a law for the walk. -/
import Derived.Test.YtnohkbekljfehaaDoorTFrontsW
namespace Go.Proofs.YtnohkbekljfehaaDoor
open Go.RowKit

theorem wpList_append_bytes {w : World} {ops : Array Oper} {rest : List Oper} {o : Oper} {a : Act} {Q : Exit → Act → World → Prop} (hgd : o.guard = none) (s x : Operand)
    (ho : o.op = .call { callee := .builtin .append, args := #[s, x], argTypes := #[31, 31] }) (base : Nat) (v : Value) (xs : List Nat) (nx : Nat) (hnx : xs.length = nx) (hs : a.eval s = v) (hown : Own base w v xs)
    (ao : Option Addr) (m c : Nat) (bs : List Nat) (hx : a.eval x = .slice ao m c) (hm : bs.length = m) (hby : Bytes w ao bs) (hc : ao = none → c = 0) (hl : nx + m ≤ 1000000000000) (hb : base ≤ w.heap.size)
    (h : ∀ ao' cap' w', Own base w' (.slice ao' (nx + m) cap') (xs ++ bs) → Kept base (fun k => v.ownBlock = some k) w w' → ((Value.slice ao' (nx + m) cap').ownBlock = v.ownBlock ∨ (Value.slice ao' (nx + m) cap').ownBlock = some w.heap.size) → wpList Tryd.prog ops Q rest (a.put o.dst (.slice ao' (nx + m) cap')) w') :
    wpList Tryd.prog ops Q (o :: rest) a w := by
  obtain ⟨i0, hi, hz0, hz1, hz2⟩ := info_parts Tryd.info5
  subst hnx
  cases ao with
  | none =>
    obtain rfl := hby.none_nil
    obtain rfl := hc rfl
    obtain rfl : m = 0 := hm.symm
    obtain ⟨aov, capv, rfl, _⟩ := hown.slice
    refine wpList_append_own_none hgd s x 31 ho base 5 i0 1 Tryd.underlying31 hi _ _ _ hs hown.1 hx ?_
    exact h aov capv w (by simpa using hown) (Kept.refl _ _ _) (Or.inl rfl)
  | some ad =>
    refine wpList_append_own_at _ hgd s x 31 ho base 5 i0 (.int .u8 0) 1 1 Tryd.underlying31 hi hz0 hz1 hz2 rfl (by decide) _ _ _ hs hown.1 ad m c (u8s bs) hx (by simp [u8s, hm]) hby.news (u8s_one bs) (by unfold maxLen; omega) (by omega) hb ?_
    intro v' w' own' g' _ hat
    have o' : Own base w' v' (xs ++ bs) := by
      refine ⟨?_, ?_⟩
      · rw [List.length_append, hm, u8s_append]; exact own'
      · intro y hy
        rcases List.mem_append.1 hy with h1 | h1
        · exact hown.2 y h1
        · exact hby.1 y h1
    obtain ⟨ao', cap', rfl⟩ : ∃ ao' cap', v' = .slice ao' (xs.length + m) cap' := by
      rcases own'.2 with ⟨rfl, h0⟩ | ⟨gb, cap2, cur, rfl, _⟩
      · exact ⟨none, 0, by rw [h0]⟩
      · exact ⟨_, cap2, rfl⟩
    refine h ao' cap' w' o' ⟨(Below.refl _ _).grown g' hb (fun k hk => (hown.1.lt k hk).1), fun k hk hn => ?_⟩ hat
    obtain ⟨_, _, _, _, hold⟩ := g'
    exact hold k hk (fun e => hn e.symm)
theorem own_empty (base : Nat) (w : World) (h : base ≤ w.heap.size) : Own base (w.alloc (.cells #[] 5)) (.slice (some ⟨w.heap.size, 0, none⟩) 0 0) [] :=
  ⟨World.ownsRow_made w #[] 0 h (by decide) rfl, by simp⟩
end Go.Proofs.YtnohkbekljfehaaDoor

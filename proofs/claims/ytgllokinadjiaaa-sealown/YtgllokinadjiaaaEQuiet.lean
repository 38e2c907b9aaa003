/- Regions whose operations read, and whose callees make memory at most: one walk serves every order. -/
import Derived.Test.YtgllokinadjiaaaSBase
import Derived.BigQuiet
namespace Go.Proofs.Ytgllokinadjiaaa
open Go.RowKit Go.Maps

/-- a world behind another one, of which it keeps all. -/
structure Bel (z : World) where
  w : World
  b : Below z.heap.size z w
theorem Bel.ne (z : World) : Nonempty (Bel z) := ⟨⟨z, Below.refl _ z⟩⟩
theorem Bel.cell {z : World} (s : Bel z) {a : Addr} {u : Value} (h : z.cell? a = some u) : s.w.cell? a = some u := (s.b.cell (blk_lt h)).trans h
theorem Bel.of {z w : World} (h : ∃ s : Bel z, w = s.w) : Below z.heap.size z w := by
  obtain ⟨s, rfl⟩ := h
  exact s.b
theorem Bel.call {z : World} {f : FuncId} {args : Array Value} {v : Value} (s : Bel z) (h : Calls Try.prog f args s.w fun e w' => e = .returned v ∧ Below s.w.heap.size s.w w') : Calls Try.prog f args s.w fun e w' => e = .returned v ∧ ∃ t : Bel z, w' = t.w :=
  h.mono fun _ w' k => ⟨k.1, ⟨w', below_far s.b k.2⟩, rfl⟩
theorem quiet_bel {id : Nat} {Q : Exit → Act → World → Prop} {a : Act} {z : World} {l : List Oper} (hm : Try.prog.follows .mixedOrders = true) (hB : Region.lexB .any l.toArray = true)
    (h : wpQuiet Try.prog l.toArray (fun w' => ∃ s : Bel z, w' = s.w) (fun a' => ∀ w', (∃ s : Bel z, w' = s.w) → Q .normal a' w') l a) : (Code.region id l.toArray true).wp Try.prog Q a z :=
  wp_region_quiet (C := fun w' => ∃ s : Bel z, w' = s.w) hm hB ⟨⟨z.drew, (Below.refl _ z).drew⟩, rfl⟩ (by simpa using h)
end Go.Proofs.Ytgllokinadjiaaa

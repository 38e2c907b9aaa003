/- synodalref2.entry: a contract. -/
import Derived.Test.YtgllokinadjiaaaGreatDoorWwRNK
import Derived.Test.YtgllokinadjiaaaGreatDoorWwRWrong
import Derived.Test.YtgllokinadjiaaaGreatDoorWwReadPut
import Derived.Deep.DeepCutAuto
namespace Go.Proofs.YtgllokinadjiaaaGreatDoor.Ww
open Go.RowKit

theorem step_on {w : World} {ops : Array Oper} {o : Oper} {a : Act} {K : Act → World → Prop} {Q : Exit → Act → World → Prop} {E : Prop} (hg : o.guard = none) (h : Oper.wp Tryz.prog o a w K Q) :
    if Region.wanted o (yielded ops a.tmps) = true then Oper.wp Tryz.prog o a w K Q else E := by
  have hw : Region.wanted o (yielded ops a.tmps) = true := by simp [Region.wanted, hg]
  rw [if_pos hw]; exact h
theorem step_app {w : World} {ops : Array Oper} {o : Oper} {a : Act} {K : Act → World → Prop} {Q : Exit → Act → World → Prop} {E : Prop} (s x : Operand) (_ho : o.op = .call { callee := .builtin .append, args := #[s, x], argTypes := #[53, 53] }) (hg : o.guard = none) (h : Oper.wp Tryz.prog o a w K Q) :
    if Region.wanted o (yielded ops a.tmps) = true then Oper.wp Tryz.prog o a w K Q else E := step_on hg h
theorem new_cell (x : World) (u : Value) (t : TypeId) : (x.alloc (.cells #[u] t)).cell? ⟨x.heap.size, 0, none⟩ = some u := by
  have := heap_alloc_new x (.cells #[u] t)
  simp only [World.cell?, this]; rfl
theorem ko_new {base : Nat} {v v' : Value} {w w' : World} {u : Value} {t : TypeId} (h : KO base v v' (w.alloc (.cells #[u] t)).drew w') (hv : v.ownBlock ≠ some w.heap.size) : w'.cell? ⟨w.heap.size, 0, none⟩ = some u := by
  have hs : w.heap.size < (w.alloc (.cells #[u] t)).drew.heap.size := by show _ < (w.alloc (.cells #[u] t)).heap.size; simp
  rw [World.cell?_of_block (w := (w.alloc (.cells #[u] t)).drew) (a := ⟨w.heap.size, 0, none⟩) (h.block hs hv)]
  exact new_cell w u t
theorem own_ne {base : Nat} {w : World} {v : Value} {bs : List Nat} {k : Nat} (h : Own base w v bs) (hk : k < base) : v.ownBlock ≠ some k := fun e => by
  have := (own_tag h.1 k e).1
  omega

end Go.Proofs.YtgllokinadjiaaaGreatDoor.Ww

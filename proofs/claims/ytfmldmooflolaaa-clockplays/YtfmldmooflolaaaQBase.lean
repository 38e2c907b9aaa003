/- Boxes in memory, what is kept. -/
import Derived.Test.YtfmldmooflolaaaKRow
namespace Go.Proofs.Ytfmldmooflolaaa
open Go.RowKit Go.Maps

theorem heap_lt {w : World} {k : Nat} {o : Obj} (h : w.heap[k]? = some o) : k < w.heap.size := by
  by_cases hh : k < w.heap.size
  · exact hh
  · rw [Array.getElem?_eq_none (by omega)] at h; cases h
theorem cell_of_block {w : World} {p i : Nat} {cs : Array Value} {t : TypeId} {fr : Nat × Nat} (h : w.heap[p]? = some (.cells cs t fr)) : w.cell? ⟨p, i, none⟩ = cs[i]? := by
  simp [World.cell?, h]
theorem free_of_block {w : World} {p i : Nat} {cs : Array Value} {t : TypeId} (h : w.heap[p]? = some (.cells cs t (0, 0))) : w.frozen? ⟨p, i, none⟩ = false := by
  simp [World.frozen?, h]
theorem setCell_block {w : World} {p i : Nat} {u : Value} {cs : Array Value} {t : TypeId} {fr : Nat × Nat} (h : w.heap[p]? = some (.cells cs t fr)) : (w.setCell ⟨p, i, none⟩ u).heap[p]? = some (.cells (cs.setIfInBounds i u) t fr) := by
  simp [World.setCell, Array.getElem?_modify, h]
theorem Below.stay {w w' : World} (h : Below w.heap.size w w') {k : Nat} {o : Obj} (hk : w.heap[k]? = some o) : w'.heap[k]? = some o := (h.block k (heap_lt hk)).trans hk
theorem below_far {w w1 w2 : World} (h : Below w.heap.size w w1) (k : Below w1.heap.size w1 w2) : Below w.heap.size w w2 := h.trans (k.mono h.size)
theorem box_at (w : World) (o : Obj) : (w.alloc o).heap[w.heap.size]? = some o := heap_alloc_new _ _

/-! ### all but some blocks are kept -/
def Kp (D : Nat → Prop) (w w' : World) : Prop := Kept 0 D w w'
theorem Kp.refl (D : Nat → Prop) (w : World) : Kp D w w := Kept.refl _ _ _
theorem Kp.of_below {D : Nat → Prop} {w w' : World} (h : Below w.heap.size w w') : Kp D w w' := Kept.of_below h (Nat.zero_le _)
theorem Kp.size {D : Nat → Prop} {w w' : World} (h : Kp D w w') : w.heap.size ≤ w'.heap.size := Kept.size h
theorem Kp.trans {D E : Nat → Prop} {a b c : World} (h : Kp D a b) (k : Kp E b c) (he : ∀ j, j < a.heap.size → E j → D j) : Kp D a c := Kept.trans h k he
theorem Kp.mono {D E : Nat → Prop} {a b : World} (h : Kp D a b) (he : ∀ j, j < a.heap.size → D j → E j) : Kp E a b := Kept.mono h (Nat.le_refl _) he
theorem Kp.far {D : Nat → Prop} {a b c : World} (h : Kp D a b) (k : Below b.heap.size b c) : Kp D a c := h.trans (E := fun _ => False) (Kp.of_below k) (fun _ _ x => x.elim)
theorem Kp.block {D : Nat → Prop} {w w' : World} (h : Kp D w w') {k : Nat} {o : Obj} (hk : w.heap[k]? = some o) (hd : ¬ D k) : w'.heap[k]? = some o := (h.2 k (heap_lt hk) hd).trans hk
theorem Kp.cell {D : Nat → Prop} {w w' : World} (h : Kp D w w') {a : Addr} {u : Value} (ha : w.cell? a = some u) (hd : ¬ D a.block) : w'.cell? a = some u := by
  rw [World.cell?_of_block (w := w) (h.2 a.block (blk_lt ha) hd)]; exact ha
theorem Kp.below {D : Nat → Prop} {w w' : World} (h : Kp D w w') {base : Nat} (hd : ∀ k, D k → base ≤ k) (hb : base ≤ w.heap.size) : Below base w w' :=
  ⟨h.1.os, h.1.tape, h.1.output, h.1.size, fun k hk => h.2 k (by omega) (fun x => by have := hd k x; omega)⟩
theorem Kp.setCell {D : Nat → Prop} {a w : World} (h : Kp D a w) {p : Addr} (hf : D p.block) (u : Value) : Kp D a (w.setCell p u) := Kept.setCell h (Nat.zero_le _) hf u
theorem Kp.alloc {D : Nat → Prop} {a w : World} (h : Kp D a w) (o : Obj) : Kp D a (w.alloc o) := Kept.alloc h (Nat.zero_le _) o
theorem Kp.drew {D : Nat → Prop} {a w : World} (h : Kp D a w) : Kp D a w.drew := Kept.drew h
theorem Kp.grown {D : Nat → Prop} {a w w' : World} {row : Option Nat} (h : Kp D a w) (hg : w.grownBy w' row) (hr : ∀ k, k < a.heap.size → row = some k → D k) : Kp D a w' :=
  h.trans (E := fun k => row = some k) ⟨⟨hg.os, hg.tape, hg.output, hg.size, fun k hk => by omega⟩, fun k hk hn => hg.block k hk (fun e => hn e.symm)⟩ hr
end Go.Proofs.Ytfmldmooflolaaa

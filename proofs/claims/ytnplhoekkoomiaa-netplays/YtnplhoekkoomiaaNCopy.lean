/- net's copied: a contract. -/
import Derived.Test.YtnplhoekkoomiaaNCuts
import Derived.Deep.RegionWith
namespace Go.Proofs.Ytnplhoekkoomiaa
open Go.RowKit Go.Maps

/-- a message's cells, from a place on. -/
def MAt (w : World) (mb mo : Nat) (m : M) : Prop := ∀ j u, m.cells[j]? = some u → w.cell? ⟨mb, mo + j, none⟩ = some u
theorem MAt.of_block {w : World} {b : Nat} {m : M} (h : w.heap[b]? = some (.cells m.cells 36 (0, 0))) : MAt w b 0 m := fun j u hj => by
  rw [Nat.zero_add, cell_of_block h]; exact hj
theorem MAt.below {w w' : World} {mb mo : Nat} {m : M} (h : MAt w mb mo m) (hb : Below w.heap.size w w') : MAt w' mb mo m := fun j u hj => by
  have := h j u hj
  rw [hb.cell (blk_lt this)]; exact this

theorem setCell_same {w : World} {b i : Nat} {u : Value} (h : w.cell? ⟨b, i, none⟩ = some u) : w.setCell ⟨b, i, none⟩ u = w := by
  have hb := blk_lt h
  simp only [World.cell?] at h
  simp only [World.setCell]
  congr 1
  apply Array.ext
  · simp
  intro k h1 h2
  rw [Array.getElem_modify]
  split
  · rename_i e
    subst e
    rw [Array.getElem?_eq_getElem h2] at h
    revert h
    cases w.heap[b] with
    | cells cs t fr =>
      intro h
      simp only [Obj.cells.injEq, and_true]
      simp at h
      show cs.setIfInBounds i u = cs
      apply Array.ext
      · simp
      intro j g1 g2
      rw [Array.getElem_setIfInBounds g2]
      split
      · rename_i e; subst e; obtain ⟨_, rfl⟩ := Array.getElem?_eq_some_iff.1 h; rfl
      · rfl
    | _ => intro h; simp at h
  · rfl

set_option maxHeartbeats 1000000 in
theorem copied_any {mb mo : Nat} {m : M} (w : World) (h : MAt w mb mo m) :
    Calls Try.prog 20 #[.pointer (some ⟨mb, mo, none⟩)] w fun e w' => e = .returned (.pointer (some ⟨w.heap.size, 0, none⟩)) ∧ w'.heap[w.heap.size]? = some (.cells m.cells 36 (0, 0)) ∧ Below w.heap.size w w' ∧ w.heap.size < w'.heap.size := by
  obtain ⟨f, t, k, i⟩ := m
  have c0 : w.cell? ⟨mb, mo, none⟩ = some (.int .i64 f) := h 0 _ rfl
  have c1 : w.cell? ⟨mb, mo + 1, none⟩ = some (.int .i64 t) := h 1 _ rfl
  have c2 : w.cell? ⟨mb, mo + 2, none⟩ = some (.int .i64 0) := h 2 _ rfl
  have c3 : w.cell? ⟨mb, mo + 3, none⟩ = some (.int .i64 k) := h 3 _ rfl
  have c4 : w.cell? ⟨mb, mo + 4, none⟩ = some (.int .i64 0) := h 4 _ rfl
  have c5 : w.cell? ⟨mb, mo + 5, none⟩ = some (.int .i64 i) := h 5 _ rfl
  have c6 : w.cell? ⟨mb, mo + 6, none⟩ = some (.int .i64 0) := h 6 _ rfl
  have c7 : w.cell? ⟨mb, mo + 7, none⟩ = some (.int .i64 0) := h 7 _ rfl
  have c8 : w.cell? ⟨mb, mo + 8, none⟩ = some (.bool false) := h 8 _ rfl
  have c9 : w.cell? ⟨mb, mo + 9, none⟩ = some (.slice none 0 0) := h 9 _ rfl
  have c10 : w.cell? ⟨mb, mo + 10, none⟩ = some (.slice none 0 0) := h 10 _ rfl
  have c11 : w.cell? ⟨mb, mo + 11, none⟩ = some (.slice none 0 0) := h 11 _ rfl
  have c12 : w.cell? ⟨mb, mo + 12, none⟩ = some (.slice none 0 0) := h 12 _ rfl
  obtain ⟨W, hW⟩ : ∃ W, w.alloc (.cells (M.cells ⟨f, t, k, i⟩) 36) = W := ⟨_, rfl⟩
  have x0 : W.heap[w.heap.size]? = some (.cells (M.cells ⟨f, t, k, i⟩) 36 (0, 0)) := by rw [← hW]; exact heap_alloc_new _ _
  have bW : Below w.heap.size w W := by rw [← hW]; exact (Below.refl _ w).alloc (Nat.le_refl _) _
  have hlt : w.heap.size < W.heap.size := blk_lt' x0
  have D := h.below bW
  have d9 : W.cell? ⟨mb, mo + 9, none⟩ = some (.slice none 0 0) := D 9 _ rfl
  have d10 : W.cell? ⟨mb, mo + 10, none⟩ = some (.slice none 0 0) := D 10 _ rfl
  have d11 : W.cell? ⟨mb, mo + 11, none⟩ = some (.slice none 0 0) := D 11 _ rfl
  have d12 : W.cell? ⟨mb, mo + 12, none⟩ = some (.slice none 0 0) := D 12 _ rfl
  have y9 : W.cell? ⟨w.heap.size, 9, none⟩ = some (.slice none 0 0) := (cell_of_block x0).trans rfl
  have y10 : W.cell? ⟨w.heap.size, 10, none⟩ = some (.slice none 0 0) := (cell_of_block x0).trans rfl
  have y11 : W.cell? ⟨w.heap.size, 11, none⟩ = some (.slice none 0 0) := (cell_of_block x0).trans rfl
  have y12 : W.cell? ⟨w.heap.size, 12, none⟩ = some (.slice none 0 0) := (cell_of_block x0).trans rfl
  have fr : ∀ i, W.frozen? ⟨w.heap.size, i, none⟩ = false := fun i => free_of_block x0
  have hne : mb ≠ w.heap.size := by have := blk_lt c0; simp only at this; omega
  have HX := hide x0
  have HB := hide bW
  have HW := hide hW
  clear x0 bW hW D h
  go_enter Try.func20, Try.ntmps20
  go_upto_region 2 with fail
  rw [show w.alloc (.cells #[.int .i64 f, .int .i64 t, .int .i64 0, .int .i64 k, .int .i64 0, .int .i64 i, .int .i64 0, .int .i64 0, .bool false, .slice none 0 0, .slice none 0 0, .slice none 0 0, .slice none 0 0] 36) = W from unhide HW]
  clear HW
  go_wp2_with fail
  refine (numbers_nil W).mono ?_
  rintro e w1 ⟨rfl, rfl⟩
  go_wp2_with fail
  rw [setCell_same y9]
  refine (entries_nil w1).mono ?_
  rintro e w2 ⟨rfl, rfl⟩
  go_upto_region 4 with fail
  rw [setCell_same y10]
  clear c0 c1 c2 c3 c4 c5 c6 c7 c8 c9 c10 c11 c12 d9 d10 y9 y10
  go_region_with (first
    | (go_at_call 24
       refine (numbers_nil _).mono ?_
       rintro e w3 ⟨rfl, rfl⟩))
  all_goals go_wp2
  all_goals go_ret
  all_goals rw [setCell_same y11, setCell_same y12]
  all_goals exact ⟨by first | rfl | simp, unhide HX, (unhide HB).drew, hlt⟩
end Go.Proofs.Ytnplhoekkoomiaa

/- net's Deliver, Drop: contracts. -/
import Derived.Test.YtnplhoekkoomiaaNTake
namespace Go.Proofs.Ytnplhoekkoomiaa
open Go.RowKit Go.Maps

theorem deliver_none {base p : Nat} {bs : List Nat} {side : List Int} {lost : Nat} (k : Int) (w : World) (h : Nt base w p bs [] side lost) :
    Calls Try.prog 12 #[.pointer (some ⟨p, 0, none⟩), .int .i64 k] w fun e w' => e = .returned (.tuple #[.agg (M.cells ⟨0, 0, 0, 0⟩), .int .i64 2]) ∧ Below w.heap.size w w' := by
  obtain ⟨v, mv, p1, p2, p3, p4, p5⟩ := h
  obtain ⟨ao, cap, rfl, _, _⟩ := p3.slice
  have hl : bs.length = 0 := p4.1
  have c0 : w.cell? ⟨p, 0, none⟩ = some (.slice ao bs.length cap) := (cell_of_block p2).trans rfl
  rw [hl] at c0
  have hp : p < w.heap.size := blk_lt' p2
  clear p2 p3 p4 p5 hl
  go_enter Try.func12, Try.ntmps12
  go_wp2
  have d0 : (w.alloc (.cells #[.int .i64 0, .int .i64 0, .int .i64 0, .int .i64 0, .int .i64 0, .int .i64 0, .int .i64 0, .int .i64 0, .bool false, .slice none 0 0, .slice none 0 0, .slice none 0 0, .slice none 0 0] 36)).cell? ⟨w.heap.size, 0, none⟩ = some (.int .i64 0) := (cell_of_block (heap_alloc_new w _)).trans rfl
  have d1 : (w.alloc (.cells #[.int .i64 0, .int .i64 0, .int .i64 0, .int .i64 0, .int .i64 0, .int .i64 0, .int .i64 0, .int .i64 0, .bool false, .slice none 0 0, .slice none 0 0, .slice none 0 0, .slice none 0 0] 36)).cell? ⟨w.heap.size, 1, none⟩ = some (.int .i64 0) := (cell_of_block (heap_alloc_new w _)).trans rfl
  have d2 : (w.alloc (.cells #[.int .i64 0, .int .i64 0, .int .i64 0, .int .i64 0, .int .i64 0, .int .i64 0, .int .i64 0, .int .i64 0, .bool false, .slice none 0 0, .slice none 0 0, .slice none 0 0, .slice none 0 0] 36)).cell? ⟨w.heap.size, 2, none⟩ = some (.int .i64 0) := (cell_of_block (heap_alloc_new w _)).trans rfl
  have d3 : (w.alloc (.cells #[.int .i64 0, .int .i64 0, .int .i64 0, .int .i64 0, .int .i64 0, .int .i64 0, .int .i64 0, .int .i64 0, .bool false, .slice none 0 0, .slice none 0 0, .slice none 0 0, .slice none 0 0] 36)).cell? ⟨w.heap.size, 3, none⟩ = some (.int .i64 0) := (cell_of_block (heap_alloc_new w _)).trans rfl
  have d4 : (w.alloc (.cells #[.int .i64 0, .int .i64 0, .int .i64 0, .int .i64 0, .int .i64 0, .int .i64 0, .int .i64 0, .int .i64 0, .bool false, .slice none 0 0, .slice none 0 0, .slice none 0 0, .slice none 0 0] 36)).cell? ⟨w.heap.size, 4, none⟩ = some (.int .i64 0) := (cell_of_block (heap_alloc_new w _)).trans rfl
  have d5 : (w.alloc (.cells #[.int .i64 0, .int .i64 0, .int .i64 0, .int .i64 0, .int .i64 0, .int .i64 0, .int .i64 0, .int .i64 0, .bool false, .slice none 0 0, .slice none 0 0, .slice none 0 0, .slice none 0 0] 36)).cell? ⟨w.heap.size, 5, none⟩ = some (.int .i64 0) := (cell_of_block (heap_alloc_new w _)).trans rfl
  have d6 : (w.alloc (.cells #[.int .i64 0, .int .i64 0, .int .i64 0, .int .i64 0, .int .i64 0, .int .i64 0, .int .i64 0, .int .i64 0, .bool false, .slice none 0 0, .slice none 0 0, .slice none 0 0, .slice none 0 0] 36)).cell? ⟨w.heap.size, 6, none⟩ = some (.int .i64 0) := (cell_of_block (heap_alloc_new w _)).trans rfl
  have d7 : (w.alloc (.cells #[.int .i64 0, .int .i64 0, .int .i64 0, .int .i64 0, .int .i64 0, .int .i64 0, .int .i64 0, .int .i64 0, .bool false, .slice none 0 0, .slice none 0 0, .slice none 0 0, .slice none 0 0] 36)).cell? ⟨w.heap.size, 7, none⟩ = some (.int .i64 0) := (cell_of_block (heap_alloc_new w _)).trans rfl
  have d8 : (w.alloc (.cells #[.int .i64 0, .int .i64 0, .int .i64 0, .int .i64 0, .int .i64 0, .int .i64 0, .int .i64 0, .int .i64 0, .bool false, .slice none 0 0, .slice none 0 0, .slice none 0 0, .slice none 0 0] 36)).cell? ⟨w.heap.size, 8, none⟩ = some (.bool false) := (cell_of_block (heap_alloc_new w _)).trans rfl
  have d9 : (w.alloc (.cells #[.int .i64 0, .int .i64 0, .int .i64 0, .int .i64 0, .int .i64 0, .int .i64 0, .int .i64 0, .int .i64 0, .bool false, .slice none 0 0, .slice none 0 0, .slice none 0 0, .slice none 0 0] 36)).cell? ⟨w.heap.size, 9, none⟩ = some (.slice none 0 0) := (cell_of_block (heap_alloc_new w _)).trans rfl
  have d10 : (w.alloc (.cells #[.int .i64 0, .int .i64 0, .int .i64 0, .int .i64 0, .int .i64 0, .int .i64 0, .int .i64 0, .int .i64 0, .bool false, .slice none 0 0, .slice none 0 0, .slice none 0 0, .slice none 0 0] 36)).cell? ⟨w.heap.size, 10, none⟩ = some (.slice none 0 0) := (cell_of_block (heap_alloc_new w _)).trans rfl
  have d11 : (w.alloc (.cells #[.int .i64 0, .int .i64 0, .int .i64 0, .int .i64 0, .int .i64 0, .int .i64 0, .int .i64 0, .int .i64 0, .bool false, .slice none 0 0, .slice none 0 0, .slice none 0 0, .slice none 0 0] 36)).cell? ⟨w.heap.size, 11, none⟩ = some (.slice none 0 0) := (cell_of_block (heap_alloc_new w _)).trans rfl
  have d12 : (w.alloc (.cells #[.int .i64 0, .int .i64 0, .int .i64 0, .int .i64 0, .int .i64 0, .int .i64 0, .int .i64 0, .int .i64 0, .bool false, .slice none 0 0, .slice none 0 0, .slice none 0 0, .slice none 0 0] 36)).cell? ⟨w.heap.size, 12, none⟩ = some (.slice none 0 0) := (cell_of_block (heap_alloc_new w _)).trans rfl
  refine bodyPost_ret (v := .tuple #[.agg #[.int .i64 0, .int .i64 0, .int .i64 0, .int .i64 0, .int .i64 0, .int .i64 0, .int .i64 0, .int .i64 0, .bool false, .slice none 0 0, .slice none 0 0, .slice none 0 0, .slice none 0 0], .int .i64 2]) (by simp [results, Try.results12, go_sem, d0, d1, d2, d3, d4, d5, d6, d7, d8, d9, d10, d11, d12]) rfl ⟨rfl, (Below.refl _ _).alloc (Nat.le_refl _) _⟩

theorem drop_none {base p : Nat} {bs : List Nat} {side : List Int} {lost : Nat} (k : Int) (w : World) (h : Nt base w p bs [] side lost) :
    Calls Try.prog 13 #[.pointer (some ⟨p, 0, none⟩), .int .i64 k] w fun e w' => e = .returned (.int .i64 2) ∧ w' = w := by
  obtain ⟨v, mv, p1, p2, p3, p4, p5⟩ := h
  obtain ⟨ao, cap, rfl, _, _⟩ := p3.slice
  have hl : bs.length = 0 := p4.1
  have c0 : w.cell? ⟨p, 0, none⟩ = some (.slice ao bs.length cap) := (cell_of_block p2).trans rfl
  rw [hl] at c0
  clear p2 p3 p4 p5 hl
  go_enter Try.func13, Try.ntmps13
  go_wp2
  go_ret
  exact ⟨rfl, rfl⟩
theorem double_none {base p : Nat} {bs : List Nat} {side : List Int} {lost : Nat} (k : Int) (w : World) (h : Nt base w p bs [] side lost) :
    Calls Try.prog 14 #[.pointer (some ⟨p, 0, none⟩), .int .i64 k] w fun e w' => e = .returned (.int .i64 2) ∧ w' = w := by
  obtain ⟨v, mv, p1, p2, p3, p4, p5⟩ := h
  obtain ⟨ao, cap, rfl, _, _⟩ := p3.slice
  have hl : bs.length = 0 := p4.1
  have c0 : w.cell? ⟨p, 0, none⟩ = some (.slice ao bs.length cap) := (cell_of_block p2).trans rfl
  rw [hl] at c0
  clear p2 p3 p4 p5 hl
  go_enter Try.func14, Try.ntmps14
  go_wp2
  go_ret
  exact ⟨rfl, rfl⟩

theorem pick_at {ms : List M} (k : Int) (h : ms ≠ []) : ∃ at' : Nat, k % (ms.length : Int) = (at' : Int) ∧ at' < ms.length := by
  have h0 : 0 < ms.length := List.length_pos_iff.2 h
  have h1 := Int.emod_nonneg k (show (ms.length : Int) ≠ 0 by omega)
  have h2 := Int.emod_lt_of_pos k (show (0 : Int) < ms.length by omega)
  exact ⟨(k % (ms.length : Int)).toNat, by omega, by omega⟩

theorem set13 {w2 : World} {q : Nat} (f t k i : Int) (h : w2.heap[q]? = some (.cells (M.cells ⟨0, 0, 0, 0⟩) 36 (0, 0))) :
    ((((((((((((((w2).setCell ⟨q, 0, none⟩ (.int .i64 f)).setCell ⟨q, 1, none⟩ (.int .i64 t)).setCell ⟨q, 2, none⟩ (.int .i64 0)).setCell ⟨q, 3, none⟩ (.int .i64 k)).setCell ⟨q, 4, none⟩ (.int .i64 0)).setCell ⟨q, 5, none⟩ (.int .i64 i)).setCell ⟨q, 6, none⟩ (.int .i64 0)).setCell ⟨q, 7, none⟩ (.int .i64 0)).setCell ⟨q, 8, none⟩ (.bool false)).setCell ⟨q, 9, none⟩ (.slice none 0 0)).setCell ⟨q, 10, none⟩ (.slice none 0 0)).setCell ⟨q, 11, none⟩ (.slice none 0 0)).setCell ⟨q, 12, none⟩ (.slice none 0 0)).heap[q]? = some (.cells #[.int .i64 f, .int .i64 t, .int .i64 0, .int .i64 k, .int .i64 0, .int .i64 i, .int .i64 0, .int .i64 0, .bool false, .slice none 0 0, .slice none 0 0, .slice none 0 0, .slice none 0 0] 36 (0, 0)) ∧ Kept q (fun k => k = q) w2 ((((((((((((((w2).setCell ⟨q, 0, none⟩ (.int .i64 f)).setCell ⟨q, 1, none⟩ (.int .i64 t)).setCell ⟨q, 2, none⟩ (.int .i64 0)).setCell ⟨q, 3, none⟩ (.int .i64 k)).setCell ⟨q, 4, none⟩ (.int .i64 0)).setCell ⟨q, 5, none⟩ (.int .i64 i)).setCell ⟨q, 6, none⟩ (.int .i64 0)).setCell ⟨q, 7, none⟩ (.int .i64 0)).setCell ⟨q, 8, none⟩ (.bool false)).setCell ⟨q, 9, none⟩ (.slice none 0 0)).setCell ⟨q, 10, none⟩ (.slice none 0 0)).setCell ⟨q, 11, none⟩ (.slice none 0 0)).setCell ⟨q, 12, none⟩ (.slice none 0 0)) := by
  have K0 : Kept q (fun k => k = q) w2 ((w2).setCell ⟨q, 0, none⟩ (.int .i64 f)) := (Kept.refl q (fun k => k = q) w2).setCell (p := ⟨q, 0, none⟩) (Nat.le_refl _) rfl _
  have B0 : ((w2).setCell ⟨q, 0, none⟩ (.int .i64 f)).heap[q]? = some (.cells #[.int .i64 f, .int .i64 0, .int .i64 0, .int .i64 0, .int .i64 0, .int .i64 0, .int .i64 0, .int .i64 0, .bool false, .slice none 0 0, .slice none 0 0, .slice none 0 0, .slice none 0 0] 36 (0, 0)) := setCell_block h
  have K1 : Kept q (fun k => k = q) w2 (((w2).setCell ⟨q, 0, none⟩ (.int .i64 f)).setCell ⟨q, 1, none⟩ (.int .i64 t)) := (K0).setCell (p := ⟨q, 1, none⟩) (Nat.le_refl _) rfl _
  have B1 : (((w2).setCell ⟨q, 0, none⟩ (.int .i64 f)).setCell ⟨q, 1, none⟩ (.int .i64 t)).heap[q]? = some (.cells #[.int .i64 f, .int .i64 t, .int .i64 0, .int .i64 0, .int .i64 0, .int .i64 0, .int .i64 0, .int .i64 0, .bool false, .slice none 0 0, .slice none 0 0, .slice none 0 0, .slice none 0 0] 36 (0, 0)) := setCell_block B0
  have K2 : Kept q (fun k => k = q) w2 ((((w2).setCell ⟨q, 0, none⟩ (.int .i64 f)).setCell ⟨q, 1, none⟩ (.int .i64 t)).setCell ⟨q, 2, none⟩ (.int .i64 0)) := (K1).setCell (p := ⟨q, 2, none⟩) (Nat.le_refl _) rfl _
  have B2 : ((((w2).setCell ⟨q, 0, none⟩ (.int .i64 f)).setCell ⟨q, 1, none⟩ (.int .i64 t)).setCell ⟨q, 2, none⟩ (.int .i64 0)).heap[q]? = some (.cells #[.int .i64 f, .int .i64 t, .int .i64 0, .int .i64 0, .int .i64 0, .int .i64 0, .int .i64 0, .int .i64 0, .bool false, .slice none 0 0, .slice none 0 0, .slice none 0 0, .slice none 0 0] 36 (0, 0)) := setCell_block B1
  have K3 : Kept q (fun k => k = q) w2 (((((w2).setCell ⟨q, 0, none⟩ (.int .i64 f)).setCell ⟨q, 1, none⟩ (.int .i64 t)).setCell ⟨q, 2, none⟩ (.int .i64 0)).setCell ⟨q, 3, none⟩ (.int .i64 k)) := (K2).setCell (p := ⟨q, 3, none⟩) (Nat.le_refl _) rfl _
  have B3 : (((((w2).setCell ⟨q, 0, none⟩ (.int .i64 f)).setCell ⟨q, 1, none⟩ (.int .i64 t)).setCell ⟨q, 2, none⟩ (.int .i64 0)).setCell ⟨q, 3, none⟩ (.int .i64 k)).heap[q]? = some (.cells #[.int .i64 f, .int .i64 t, .int .i64 0, .int .i64 k, .int .i64 0, .int .i64 0, .int .i64 0, .int .i64 0, .bool false, .slice none 0 0, .slice none 0 0, .slice none 0 0, .slice none 0 0] 36 (0, 0)) := setCell_block B2
  have K4 : Kept q (fun k => k = q) w2 ((((((w2).setCell ⟨q, 0, none⟩ (.int .i64 f)).setCell ⟨q, 1, none⟩ (.int .i64 t)).setCell ⟨q, 2, none⟩ (.int .i64 0)).setCell ⟨q, 3, none⟩ (.int .i64 k)).setCell ⟨q, 4, none⟩ (.int .i64 0)) := (K3).setCell (p := ⟨q, 4, none⟩) (Nat.le_refl _) rfl _
  have B4 : ((((((w2).setCell ⟨q, 0, none⟩ (.int .i64 f)).setCell ⟨q, 1, none⟩ (.int .i64 t)).setCell ⟨q, 2, none⟩ (.int .i64 0)).setCell ⟨q, 3, none⟩ (.int .i64 k)).setCell ⟨q, 4, none⟩ (.int .i64 0)).heap[q]? = some (.cells #[.int .i64 f, .int .i64 t, .int .i64 0, .int .i64 k, .int .i64 0, .int .i64 0, .int .i64 0, .int .i64 0, .bool false, .slice none 0 0, .slice none 0 0, .slice none 0 0, .slice none 0 0] 36 (0, 0)) := setCell_block B3
  have K5 : Kept q (fun k => k = q) w2 (((((((w2).setCell ⟨q, 0, none⟩ (.int .i64 f)).setCell ⟨q, 1, none⟩ (.int .i64 t)).setCell ⟨q, 2, none⟩ (.int .i64 0)).setCell ⟨q, 3, none⟩ (.int .i64 k)).setCell ⟨q, 4, none⟩ (.int .i64 0)).setCell ⟨q, 5, none⟩ (.int .i64 i)) := (K4).setCell (p := ⟨q, 5, none⟩) (Nat.le_refl _) rfl _
  have B5 : (((((((w2).setCell ⟨q, 0, none⟩ (.int .i64 f)).setCell ⟨q, 1, none⟩ (.int .i64 t)).setCell ⟨q, 2, none⟩ (.int .i64 0)).setCell ⟨q, 3, none⟩ (.int .i64 k)).setCell ⟨q, 4, none⟩ (.int .i64 0)).setCell ⟨q, 5, none⟩ (.int .i64 i)).heap[q]? = some (.cells #[.int .i64 f, .int .i64 t, .int .i64 0, .int .i64 k, .int .i64 0, .int .i64 i, .int .i64 0, .int .i64 0, .bool false, .slice none 0 0, .slice none 0 0, .slice none 0 0, .slice none 0 0] 36 (0, 0)) := setCell_block B4
  have K6 : Kept q (fun k => k = q) w2 ((((((((w2).setCell ⟨q, 0, none⟩ (.int .i64 f)).setCell ⟨q, 1, none⟩ (.int .i64 t)).setCell ⟨q, 2, none⟩ (.int .i64 0)).setCell ⟨q, 3, none⟩ (.int .i64 k)).setCell ⟨q, 4, none⟩ (.int .i64 0)).setCell ⟨q, 5, none⟩ (.int .i64 i)).setCell ⟨q, 6, none⟩ (.int .i64 0)) := (K5).setCell (p := ⟨q, 6, none⟩) (Nat.le_refl _) rfl _
  have B6 : ((((((((w2).setCell ⟨q, 0, none⟩ (.int .i64 f)).setCell ⟨q, 1, none⟩ (.int .i64 t)).setCell ⟨q, 2, none⟩ (.int .i64 0)).setCell ⟨q, 3, none⟩ (.int .i64 k)).setCell ⟨q, 4, none⟩ (.int .i64 0)).setCell ⟨q, 5, none⟩ (.int .i64 i)).setCell ⟨q, 6, none⟩ (.int .i64 0)).heap[q]? = some (.cells #[.int .i64 f, .int .i64 t, .int .i64 0, .int .i64 k, .int .i64 0, .int .i64 i, .int .i64 0, .int .i64 0, .bool false, .slice none 0 0, .slice none 0 0, .slice none 0 0, .slice none 0 0] 36 (0, 0)) := setCell_block B5
  have K7 : Kept q (fun k => k = q) w2 (((((((((w2).setCell ⟨q, 0, none⟩ (.int .i64 f)).setCell ⟨q, 1, none⟩ (.int .i64 t)).setCell ⟨q, 2, none⟩ (.int .i64 0)).setCell ⟨q, 3, none⟩ (.int .i64 k)).setCell ⟨q, 4, none⟩ (.int .i64 0)).setCell ⟨q, 5, none⟩ (.int .i64 i)).setCell ⟨q, 6, none⟩ (.int .i64 0)).setCell ⟨q, 7, none⟩ (.int .i64 0)) := (K6).setCell (p := ⟨q, 7, none⟩) (Nat.le_refl _) rfl _
  have B7 : (((((((((w2).setCell ⟨q, 0, none⟩ (.int .i64 f)).setCell ⟨q, 1, none⟩ (.int .i64 t)).setCell ⟨q, 2, none⟩ (.int .i64 0)).setCell ⟨q, 3, none⟩ (.int .i64 k)).setCell ⟨q, 4, none⟩ (.int .i64 0)).setCell ⟨q, 5, none⟩ (.int .i64 i)).setCell ⟨q, 6, none⟩ (.int .i64 0)).setCell ⟨q, 7, none⟩ (.int .i64 0)).heap[q]? = some (.cells #[.int .i64 f, .int .i64 t, .int .i64 0, .int .i64 k, .int .i64 0, .int .i64 i, .int .i64 0, .int .i64 0, .bool false, .slice none 0 0, .slice none 0 0, .slice none 0 0, .slice none 0 0] 36 (0, 0)) := setCell_block B6
  have K8 : Kept q (fun k => k = q) w2 ((((((((((w2).setCell ⟨q, 0, none⟩ (.int .i64 f)).setCell ⟨q, 1, none⟩ (.int .i64 t)).setCell ⟨q, 2, none⟩ (.int .i64 0)).setCell ⟨q, 3, none⟩ (.int .i64 k)).setCell ⟨q, 4, none⟩ (.int .i64 0)).setCell ⟨q, 5, none⟩ (.int .i64 i)).setCell ⟨q, 6, none⟩ (.int .i64 0)).setCell ⟨q, 7, none⟩ (.int .i64 0)).setCell ⟨q, 8, none⟩ (.bool false)) := (K7).setCell (p := ⟨q, 8, none⟩) (Nat.le_refl _) rfl _
  have B8 : ((((((((((w2).setCell ⟨q, 0, none⟩ (.int .i64 f)).setCell ⟨q, 1, none⟩ (.int .i64 t)).setCell ⟨q, 2, none⟩ (.int .i64 0)).setCell ⟨q, 3, none⟩ (.int .i64 k)).setCell ⟨q, 4, none⟩ (.int .i64 0)).setCell ⟨q, 5, none⟩ (.int .i64 i)).setCell ⟨q, 6, none⟩ (.int .i64 0)).setCell ⟨q, 7, none⟩ (.int .i64 0)).setCell ⟨q, 8, none⟩ (.bool false)).heap[q]? = some (.cells #[.int .i64 f, .int .i64 t, .int .i64 0, .int .i64 k, .int .i64 0, .int .i64 i, .int .i64 0, .int .i64 0, .bool false, .slice none 0 0, .slice none 0 0, .slice none 0 0, .slice none 0 0] 36 (0, 0)) := setCell_block B7
  have K9 : Kept q (fun k => k = q) w2 (((((((((((w2).setCell ⟨q, 0, none⟩ (.int .i64 f)).setCell ⟨q, 1, none⟩ (.int .i64 t)).setCell ⟨q, 2, none⟩ (.int .i64 0)).setCell ⟨q, 3, none⟩ (.int .i64 k)).setCell ⟨q, 4, none⟩ (.int .i64 0)).setCell ⟨q, 5, none⟩ (.int .i64 i)).setCell ⟨q, 6, none⟩ (.int .i64 0)).setCell ⟨q, 7, none⟩ (.int .i64 0)).setCell ⟨q, 8, none⟩ (.bool false)).setCell ⟨q, 9, none⟩ (.slice none 0 0)) := (K8).setCell (p := ⟨q, 9, none⟩) (Nat.le_refl _) rfl _
  have B9 : (((((((((((w2).setCell ⟨q, 0, none⟩ (.int .i64 f)).setCell ⟨q, 1, none⟩ (.int .i64 t)).setCell ⟨q, 2, none⟩ (.int .i64 0)).setCell ⟨q, 3, none⟩ (.int .i64 k)).setCell ⟨q, 4, none⟩ (.int .i64 0)).setCell ⟨q, 5, none⟩ (.int .i64 i)).setCell ⟨q, 6, none⟩ (.int .i64 0)).setCell ⟨q, 7, none⟩ (.int .i64 0)).setCell ⟨q, 8, none⟩ (.bool false)).setCell ⟨q, 9, none⟩ (.slice none 0 0)).heap[q]? = some (.cells #[.int .i64 f, .int .i64 t, .int .i64 0, .int .i64 k, .int .i64 0, .int .i64 i, .int .i64 0, .int .i64 0, .bool false, .slice none 0 0, .slice none 0 0, .slice none 0 0, .slice none 0 0] 36 (0, 0)) := setCell_block B8
  have K10 : Kept q (fun k => k = q) w2 ((((((((((((w2).setCell ⟨q, 0, none⟩ (.int .i64 f)).setCell ⟨q, 1, none⟩ (.int .i64 t)).setCell ⟨q, 2, none⟩ (.int .i64 0)).setCell ⟨q, 3, none⟩ (.int .i64 k)).setCell ⟨q, 4, none⟩ (.int .i64 0)).setCell ⟨q, 5, none⟩ (.int .i64 i)).setCell ⟨q, 6, none⟩ (.int .i64 0)).setCell ⟨q, 7, none⟩ (.int .i64 0)).setCell ⟨q, 8, none⟩ (.bool false)).setCell ⟨q, 9, none⟩ (.slice none 0 0)).setCell ⟨q, 10, none⟩ (.slice none 0 0)) := (K9).setCell (p := ⟨q, 10, none⟩) (Nat.le_refl _) rfl _
  have B10 : ((((((((((((w2).setCell ⟨q, 0, none⟩ (.int .i64 f)).setCell ⟨q, 1, none⟩ (.int .i64 t)).setCell ⟨q, 2, none⟩ (.int .i64 0)).setCell ⟨q, 3, none⟩ (.int .i64 k)).setCell ⟨q, 4, none⟩ (.int .i64 0)).setCell ⟨q, 5, none⟩ (.int .i64 i)).setCell ⟨q, 6, none⟩ (.int .i64 0)).setCell ⟨q, 7, none⟩ (.int .i64 0)).setCell ⟨q, 8, none⟩ (.bool false)).setCell ⟨q, 9, none⟩ (.slice none 0 0)).setCell ⟨q, 10, none⟩ (.slice none 0 0)).heap[q]? = some (.cells #[.int .i64 f, .int .i64 t, .int .i64 0, .int .i64 k, .int .i64 0, .int .i64 i, .int .i64 0, .int .i64 0, .bool false, .slice none 0 0, .slice none 0 0, .slice none 0 0, .slice none 0 0] 36 (0, 0)) := setCell_block B9
  have K11 : Kept q (fun k => k = q) w2 (((((((((((((w2).setCell ⟨q, 0, none⟩ (.int .i64 f)).setCell ⟨q, 1, none⟩ (.int .i64 t)).setCell ⟨q, 2, none⟩ (.int .i64 0)).setCell ⟨q, 3, none⟩ (.int .i64 k)).setCell ⟨q, 4, none⟩ (.int .i64 0)).setCell ⟨q, 5, none⟩ (.int .i64 i)).setCell ⟨q, 6, none⟩ (.int .i64 0)).setCell ⟨q, 7, none⟩ (.int .i64 0)).setCell ⟨q, 8, none⟩ (.bool false)).setCell ⟨q, 9, none⟩ (.slice none 0 0)).setCell ⟨q, 10, none⟩ (.slice none 0 0)).setCell ⟨q, 11, none⟩ (.slice none 0 0)) := (K10).setCell (p := ⟨q, 11, none⟩) (Nat.le_refl _) rfl _
  have B11 : (((((((((((((w2).setCell ⟨q, 0, none⟩ (.int .i64 f)).setCell ⟨q, 1, none⟩ (.int .i64 t)).setCell ⟨q, 2, none⟩ (.int .i64 0)).setCell ⟨q, 3, none⟩ (.int .i64 k)).setCell ⟨q, 4, none⟩ (.int .i64 0)).setCell ⟨q, 5, none⟩ (.int .i64 i)).setCell ⟨q, 6, none⟩ (.int .i64 0)).setCell ⟨q, 7, none⟩ (.int .i64 0)).setCell ⟨q, 8, none⟩ (.bool false)).setCell ⟨q, 9, none⟩ (.slice none 0 0)).setCell ⟨q, 10, none⟩ (.slice none 0 0)).setCell ⟨q, 11, none⟩ (.slice none 0 0)).heap[q]? = some (.cells #[.int .i64 f, .int .i64 t, .int .i64 0, .int .i64 k, .int .i64 0, .int .i64 i, .int .i64 0, .int .i64 0, .bool false, .slice none 0 0, .slice none 0 0, .slice none 0 0, .slice none 0 0] 36 (0, 0)) := setCell_block B10
  have K12 : Kept q (fun k => k = q) w2 ((((((((((((((w2).setCell ⟨q, 0, none⟩ (.int .i64 f)).setCell ⟨q, 1, none⟩ (.int .i64 t)).setCell ⟨q, 2, none⟩ (.int .i64 0)).setCell ⟨q, 3, none⟩ (.int .i64 k)).setCell ⟨q, 4, none⟩ (.int .i64 0)).setCell ⟨q, 5, none⟩ (.int .i64 i)).setCell ⟨q, 6, none⟩ (.int .i64 0)).setCell ⟨q, 7, none⟩ (.int .i64 0)).setCell ⟨q, 8, none⟩ (.bool false)).setCell ⟨q, 9, none⟩ (.slice none 0 0)).setCell ⟨q, 10, none⟩ (.slice none 0 0)).setCell ⟨q, 11, none⟩ (.slice none 0 0)).setCell ⟨q, 12, none⟩ (.slice none 0 0)) := (K11).setCell (p := ⟨q, 12, none⟩) (Nat.le_refl _) rfl _
  have B12 : ((((((((((((((w2).setCell ⟨q, 0, none⟩ (.int .i64 f)).setCell ⟨q, 1, none⟩ (.int .i64 t)).setCell ⟨q, 2, none⟩ (.int .i64 0)).setCell ⟨q, 3, none⟩ (.int .i64 k)).setCell ⟨q, 4, none⟩ (.int .i64 0)).setCell ⟨q, 5, none⟩ (.int .i64 i)).setCell ⟨q, 6, none⟩ (.int .i64 0)).setCell ⟨q, 7, none⟩ (.int .i64 0)).setCell ⟨q, 8, none⟩ (.bool false)).setCell ⟨q, 9, none⟩ (.slice none 0 0)).setCell ⟨q, 10, none⟩ (.slice none 0 0)).setCell ⟨q, 11, none⟩ (.slice none 0 0)).setCell ⟨q, 12, none⟩ (.slice none 0 0)).heap[q]? = some (.cells #[.int .i64 f, .int .i64 t, .int .i64 0, .int .i64 k, .int .i64 0, .int .i64 i, .int .i64 0, .int .i64 0, .bool false, .slice none 0 0, .slice none 0 0, .slice none 0 0, .slice none 0 0] 36 (0, 0)) := setCell_block B11
  exact ⟨B12, K12⟩

set_option maxHeartbeats 1000000 in
theorem deliver_ok {base p at' : Nat} {kk : Int} {bs : List Nat} {ms : List M} {side : List Int} {lost : Nat} {m : M} (w : World) (h : Nt base w p bs ms side lost) (hl : ms.length ≤ 1000000) (hk : kk % (ms.length : Int) = (at' : Int)) (hm : ms[at']? = some m) (hbase : base ≤ w.heap.size) :
    Calls Try.prog 12 #[.pointer (some ⟨p, 0, none⟩), .int .i64 kk] w fun e w' => e = .returned (.tuple #[.agg m.cells, .int .i64 0]) ∧ Nt base w' p (bs.eraseIdx at') (ms.eraseIdx at') side lost ∧ Only base [53, 55] w w' := by
  obtain ⟨v, mv, p1, p2, p3, p4, p5⟩ := id h
  obtain ⟨ao, cap, rfl, _, hcm⟩ := p3.slice
  have hlt := (List.getElem?_eq_some_iff.1 hm).1
  have hbl : bs.length = ms.length := p4.1
  obtain ⟨b, hb⟩ : ∃ b, bs[at']? = some b := ⟨_, List.getElem?_eq_getElem (by omega)⟩
  have hmb := (p4.2 at' b m hb hm).2
  have hpl : p < w.heap.size := blk_lt' p2
  obtain ⟨W, hW⟩ : ∃ W, w.alloc (.cells (M.cells ⟨0, 0, 0, 0⟩) 36) = W := ⟨_, rfl⟩
  have bW : Below w.heap.size w W := by rw [← hW]; exact (Below.refl _ w).alloc (Nat.le_refl _) _
  have T := take_any W (h.below bW) hl hk hb (Nat.le_trans hbase bW.size)
  have x0 : W.heap[w.heap.size]? = some (.cells (M.cells ⟨0, 0, 0, 0⟩) 36 (0, 0)) := by rw [← hW]; exact heap_alloc_new _ _
  have c0 : W.cell? ⟨p, 0, none⟩ = some (.slice ao bs.length cap) := by rw [bW.cell hpl]; exact (cell_of_block p2).trans rfl
  have hb1 := (bW.block b (blk_lt' hmb)).trans hmb
  have hbn : 0 < bs.length := by omega
  have hmx : bs.length ≤ 1000000 := by omega
  have hne : b ≠ w.heap.size := by have := blk_lt' hmb; omega
  have HBS : Hid (∀ j ∈ bs, j < w.heap.size) := fun j hj => by
    obtain ⟨i, hi⟩ := List.getElem?_of_mem hj
    have hil := (List.getElem?_eq_some_iff.1 hi).1
    exact blk_lt' (p4.2 i j ms[i] hi (List.getElem?_eq_getElem (by omega))).2
  have HT := hide T
  have HW := hide hW
  have BW := hide bW
  have X0 := hide x0
  have HB1 := hide hb1
  clear hW bW x0 hb1 T h p2 p3 p4 p5 hk hm hb hmb hlt hl
  go_enter Try.func12, Try.ntmps12
  go_upto_region 1 with fail
  rw [show w.alloc (.cells #[.int .i64 0, .int .i64 0, .int .i64 0, .int .i64 0, .int .i64 0, .int .i64 0, .int .i64 0, .int .i64 0, .bool false, .slice none 0 0, .slice none 0 0, .slice none 0 0, .slice none 0 0] 36) = W from unhide HW]
  clear HW
  go_wp2_with fail
  refine (unhide HT).mono ?_
  rintro e w2 ⟨rfl, n2, o2⟩
  have b2 := o2.block (unhide HB1) (by decide)
  have r2 := o2.block (unhide X0) (by decide)
  obtain ⟨f, t, k, i⟩ := m
  have e0 : w2.cell? ⟨b, 0, none⟩ = some (.int .i64 f) := (cell_of_block b2).trans rfl
  have e1 : w2.cell? ⟨b, 1, none⟩ = some (.int .i64 t) := (cell_of_block b2).trans rfl
  have e2 : w2.cell? ⟨b, 2, none⟩ = some (.int .i64 0) := (cell_of_block b2).trans rfl
  have e3 : w2.cell? ⟨b, 3, none⟩ = some (.int .i64 k) := (cell_of_block b2).trans rfl
  have e4 : w2.cell? ⟨b, 4, none⟩ = some (.int .i64 0) := (cell_of_block b2).trans rfl
  have e5 : w2.cell? ⟨b, 5, none⟩ = some (.int .i64 i) := (cell_of_block b2).trans rfl
  have e6 : w2.cell? ⟨b, 6, none⟩ = some (.int .i64 0) := (cell_of_block b2).trans rfl
  have e7 : w2.cell? ⟨b, 7, none⟩ = some (.int .i64 0) := (cell_of_block b2).trans rfl
  have e8 : w2.cell? ⟨b, 8, none⟩ = some (.bool false) := (cell_of_block b2).trans rfl
  have e9 : w2.cell? ⟨b, 9, none⟩ = some (.slice none 0 0) := (cell_of_block b2).trans rfl
  have e10 : w2.cell? ⟨b, 10, none⟩ = some (.slice none 0 0) := (cell_of_block b2).trans rfl
  have e11 : w2.cell? ⟨b, 11, none⟩ = some (.slice none 0 0) := (cell_of_block b2).trans rfl
  have e12 : w2.cell? ⟨b, 12, none⟩ = some (.slice none 0 0) := (cell_of_block b2).trans rfl
  have r0 : w2.cell? ⟨w.heap.size, 0, none⟩ = some (.int .i64 0) := (cell_of_block r2).trans rfl
  have r1 : w2.cell? ⟨w.heap.size, 1, none⟩ = some (.int .i64 0) := (cell_of_block r2).trans rfl
  have r2' : w2.cell? ⟨w.heap.size, 2, none⟩ = some (.int .i64 0) := (cell_of_block r2).trans rfl
  have r3 : w2.cell? ⟨w.heap.size, 3, none⟩ = some (.int .i64 0) := (cell_of_block r2).trans rfl
  have r4 : w2.cell? ⟨w.heap.size, 4, none⟩ = some (.int .i64 0) := (cell_of_block r2).trans rfl
  have r5 : w2.cell? ⟨w.heap.size, 5, none⟩ = some (.int .i64 0) := (cell_of_block r2).trans rfl
  have r6 : w2.cell? ⟨w.heap.size, 6, none⟩ = some (.int .i64 0) := (cell_of_block r2).trans rfl
  have r7 : w2.cell? ⟨w.heap.size, 7, none⟩ = some (.int .i64 0) := (cell_of_block r2).trans rfl
  have r8 : w2.cell? ⟨w.heap.size, 8, none⟩ = some (.bool false) := (cell_of_block r2).trans rfl
  have r9 : w2.cell? ⟨w.heap.size, 9, none⟩ = some (.slice none 0 0) := (cell_of_block r2).trans rfl
  have r10 : w2.cell? ⟨w.heap.size, 10, none⟩ = some (.slice none 0 0) := (cell_of_block r2).trans rfl
  have r11 : w2.cell? ⟨w.heap.size, 11, none⟩ = some (.slice none 0 0) := (cell_of_block r2).trans rfl
  have r12 : w2.cell? ⟨w.heap.size, 12, none⟩ = some (.slice none 0 0) := (cell_of_block r2).trans rfl
  have fr : ∀ j, w2.frozen? ⟨w.heap.size, j, none⟩ = false := fun j => free_of_block r2
  have R2 := hide r2
  have N2 := hide n2
  have O2 := hide o2
  clear b2 r2 n2 o2
  obtain ⟨w3, hw3⟩ : ∃ w3, (((((((((((((w2).setCell ⟨w.heap.size, 0, none⟩ (.int .i64 f)).setCell ⟨w.heap.size, 1, none⟩ (.int .i64 t)).setCell ⟨w.heap.size, 2, none⟩ (.int .i64 0)).setCell ⟨w.heap.size, 3, none⟩ (.int .i64 k)).setCell ⟨w.heap.size, 4, none⟩ (.int .i64 0)).setCell ⟨w.heap.size, 5, none⟩ (.int .i64 i)).setCell ⟨w.heap.size, 6, none⟩ (.int .i64 0)).setCell ⟨w.heap.size, 7, none⟩ (.int .i64 0)).setCell ⟨w.heap.size, 8, none⟩ (.bool false)).setCell ⟨w.heap.size, 9, none⟩ (.slice none 0 0)).setCell ⟨w.heap.size, 10, none⟩ (.slice none 0 0)).setCell ⟨w.heap.size, 11, none⟩ (.slice none 0 0)).setCell ⟨w.heap.size, 12, none⟩ (.slice none 0 0) = w3 := ⟨_, rfl⟩
  obtain ⟨b3, k3⟩ := set13 f t k i (unhide R2)
  rw [hw3] at b3 k3
  have HW3 := hide hw3
  clear hw3
  go_wp2
  rw [unhide HW3]
  have d0 : w3.cell? ⟨w.heap.size, 0, none⟩ = some (.int .i64 f) := (cell_of_block b3).trans rfl
  have d1 : w3.cell? ⟨w.heap.size, 1, none⟩ = some (.int .i64 t) := (cell_of_block b3).trans rfl
  have d2 : w3.cell? ⟨w.heap.size, 2, none⟩ = some (.int .i64 0) := (cell_of_block b3).trans rfl
  have d3 : w3.cell? ⟨w.heap.size, 3, none⟩ = some (.int .i64 k) := (cell_of_block b3).trans rfl
  have d4 : w3.cell? ⟨w.heap.size, 4, none⟩ = some (.int .i64 0) := (cell_of_block b3).trans rfl
  have d5 : w3.cell? ⟨w.heap.size, 5, none⟩ = some (.int .i64 i) := (cell_of_block b3).trans rfl
  have d6 : w3.cell? ⟨w.heap.size, 6, none⟩ = some (.int .i64 0) := (cell_of_block b3).trans rfl
  have d7 : w3.cell? ⟨w.heap.size, 7, none⟩ = some (.int .i64 0) := (cell_of_block b3).trans rfl
  have d8 : w3.cell? ⟨w.heap.size, 8, none⟩ = some (.bool false) := (cell_of_block b3).trans rfl
  have d9 : w3.cell? ⟨w.heap.size, 9, none⟩ = some (.slice none 0 0) := (cell_of_block b3).trans rfl
  have d10 : w3.cell? ⟨w.heap.size, 10, none⟩ = some (.slice none 0 0) := (cell_of_block b3).trans rfl
  have d11 : w3.cell? ⟨w.heap.size, 11, none⟩ = some (.slice none 0 0) := (cell_of_block b3).trans rfl
  have d12 : w3.cell? ⟨w.heap.size, 12, none⟩ = some (.slice none 0 0) := (cell_of_block b3).trans rfl
  refine bodyPost_ret (v := .tuple #[.agg #[.int .i64 f, .int .i64 t, .int .i64 0, .int .i64 k, .int .i64 0, .int .i64 i, .int .i64 0, .int .i64 0, .bool false, .slice none 0 0, .slice none 0 0, .slice none 0 0, .slice none 0 0], .int .i64 0]) (by simp [results, Try.results12, go_sem, d0, d1, d2, d3, d4, d5, d6, d7, d8, d9, d10, d11, d12]) rfl ⟨rfl, (unhide N2).kept fun j hj _ hc => ?_, ?_⟩
  · refine k3.2 j hj (fun e => ?_)
    subst e
    rcases hc _ _ _ (unhide R2) with h | h | ⟨_, h⟩
    · exact absurd h (by decide)
    · exact absurd h (by decide)
    · exact absurd (unhide HBS _ (List.mem_of_mem_eraseIdx h)) (Nat.lt_irrefl _)
  · have o2 : Only base [53, 55] w w2 := (Only.of_below (unhide BW) hbase).trans (unhide O2)
    refine ⟨o2.1.trans (k3.1.mono hbase), fun j hj hn => ?_⟩
    rw [← o2.2 j hj hn]
    exact k3.2 j (Nat.lt_of_lt_of_le hj o2.size) (by omega)

set_option maxHeartbeats 1000000 in
theorem drop_ok {base p at' : Nat} {kk : Int} {bs : List Nat} {ms : List M} {side : List Int} {lost : Nat} (w : World) (h : Nt base w p bs ms side lost) (hl : ms.length ≤ 1000000) (hlo : lost ≤ 1000000) (hk : kk % (ms.length : Int) = (at' : Int)) (hlt : at' < ms.length) (hbase : base ≤ w.heap.size) :
    Calls Try.prog 13 #[.pointer (some ⟨p, 0, none⟩), .int .i64 kk] w fun e w' => e = .returned (.int .i64 0) ∧ Nt base w' p (bs.eraseIdx at') (ms.eraseIdx at') side (lost + 1) ∧ Only base [53, 55] w w' := by
  obtain ⟨v, mv, p1, p2, p3, p4, p5⟩ := id h
  obtain ⟨ao, cap, rfl, _, hcm⟩ := p3.slice
  have hbl : bs.length = ms.length := p4.1
  obtain ⟨b, hb⟩ : ∃ b, bs[at']? = some b := ⟨_, List.getElem?_eq_getElem (by omega)⟩
  have HT := hide (take_any w h hl hk hb hbase)
  have c0 : w.cell? ⟨p, 0, none⟩ = some (.slice ao bs.length cap) := (cell_of_block p2).trans rfl
  have hbn : 0 < bs.length := by omega
  have hmx : bs.length ≤ 1000000 := by omega
  clear p2 p3 p4 p5 hk hb h hl hlt hbl
  go_enter Try.func13, Try.ntmps13
  go_wp2_with fail
  refine (unhide HT).mono ?_
  rintro e w2 ⟨rfl, n2, o2⟩
  obtain ⟨v2, mv2, q1, q2, q3, q4, q5⟩ := n2
  have c2 : w2.cell? ⟨p, 2, none⟩ = some (.int .i64 (lost : Int)) := (cell_of_block q2).trans rfl
  have f2 : w2.frozen? ⟨p, 2, none⟩ = false := free_of_block q2
  have NT := hide (nt_lost (lost + 1) q1 q2 q3 q4 q5)
  have O2 := hide o2
  clear q2 q3 q4 q5 o2
  go_wp2
  go_ret
  have N2 := unhide NT
  rw [show ((lost + 1 : Nat) : Int) = (lost : Int) + 1 by simp] at N2
  exact ⟨rfl, N2.1, (unhide O2).trans (N2.2.mono (Nat.le_refl _) (by simp))⟩
end Go.Proofs.Ytnplhoekkoomiaa

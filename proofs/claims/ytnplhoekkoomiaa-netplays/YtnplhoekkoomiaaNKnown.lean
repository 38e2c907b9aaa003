/- synodallaw6's known, cut: contracts. -/
import Derived.Test.YtnplhoekkoomiaaNCut
import Derived.Test.YtnplhoekkoomiaaNDouble
namespace Go.Proofs.Ytnplhoekkoomiaa
open Go.RowKit Go.Maps

theorem M.size (m : M) : m.cells.size = 13 := rfl
theorem Row.one {w : World} {lb : Nat} {m : M} {fr : Nat × Nat} (h : w.heap[lb]? = some (.cells m.cells 36 fr)) : Row w lb [m] := by
  refine ⟨_, fr, h, fun i x j u hx hu => ?_⟩
  cases i with
  | zero => simp at hx; subst hx; simpa using hu
  | succ i => simp at hx
theorem Row.two {w : World} {lb : Nat} {m x : M} {fr : Nat × Nat} (h : w.heap[lb]? = some (.cells (m.cells ++ x.cells) 36 fr)) : Row w lb [m, x] := by
  refine ⟨_, fr, h, fun i y j u hy hu => ?_⟩
  have hj : j < 13 := by have := (Array.getElem?_eq_some_iff.1 hu).1; rw [M.size] at this; exact this
  match i, hy with
  | 0, hy =>
    simp at hy; subst hy
    rw [Array.getElem?_append_left (by rw [M.size]; omega)]; simpa using hu
  | 1, hy =>
    simp at hy; subst hy
    rw [Array.getElem?_append_right (by rw [M.size]; omega), M.size]
    rw [show 1 * 13 + j - 13 = j by omega]; exact hu
  | i + 2, hy => simp at hy
theorem pass_none (m : M) : passB [] m = true := by simp [passB, cutB]
theorem lost_none (ls : List M) : lostN [] ls = 0 := by simp [lostN, cutB]
theorem filter_none (ls : List M) : ls.filter (passB []) = ls := List.filter_eq_self.2 fun m _ => pass_none m
theorem wf0 : (Lit.int .i64 0).wf = true := rfl

set_option maxRecDepth 20000 in
set_option maxHeartbeats 2000000 in
theorem known_any (w : World) : Calls Try.prog 7 #[] w fun e w' => e = .returned (.bool true) ∧ Below w.heap.size w w' := by
  go_enter Try.func7, Try.ntmps7
  go_wp2_with fail
  refine (new_any w).mono ?_
  rintro e w1 ⟨rfl, n1, b1⟩
  have s1 := b1.size
  obtain ⟨W, hW⟩ : ∃ W, w1.alloc (.cells ((M.mk 0 0 1 0).cells ++ (M.mk 0 0 2 0).cells) 36) = W := ⟨_, rfl⟩
  have bW : Below w1.heap.size w1 W := by rw [← hW]; exact (Below.refl _ w1).alloc (Nat.le_refl _) _
  have xW : W.heap[w1.heap.size]? = some (.cells ((M.mk 0 0 1 0).cells ++ (M.mk 0 0 2 0).cells) 36 (0, 0)) := by rw [← hW]; exact heap_alloc_new _ _
  have SD := hide (send_any (cap := 2) (n := 2) W (n1.below bW) (Row.two xW) rfl (by intro m hm; simp at hm; rcases hm with rfl | rfl <;> exact ⟨wf0, wf0⟩) (Nat.le_trans s1 bW.size) (by decide) (by decide))
  have HW := hide hW
  have B1 := hide b1
  have BW := hide bW
  clear n1 b1 bW xW hW
  go_wp2_with fail
  rw [show w1.alloc (.cells #[.int .i64 0, .int .i64 0, .int .i64 0, .int .i64 1, .int .i64 0, .int .i64 0, .int .i64 0, .int .i64 0, .bool false, .slice none 0 0, .slice none 0 0, .slice none 0 0, .slice none 0 0, .int .i64 0, .int .i64 0, .int .i64 0, .int .i64 2, .int .i64 0, .int .i64 0, .int .i64 0, .int .i64 0, .bool false, .slice none 0 0, .slice none 0 0, .slice none 0 0, .slice none 0 0] 36) = W by rw [← unhide HW]; rfl]
  refine (unhide SD).mono ?_
  rw [filter_none, lost_none, List.nil_append, Nat.add_zero]
  rintro e w2 ⟨rfl, ⟨bs, n2, _⟩, o2⟩
  have s2 : w.heap.size ≤ w2.heap.size := Nat.le_trans (Nat.le_trans s1 (unhide BW).size) o2.size
  have DV := hide (deliver_ok (kk := 1) (at' := 1) w2 n2 (by decide) (by decide) rfl s2)
  have HB2 := hide (((unhide B1).trans ((unhide BW).mono s1)).trans o2.1)
  clear n2 o2 SD HW
  go_wp2_with fail
  refine (unhide DV).mono ?_
  simp only [M.cells]
  rintro e w3 ⟨rfl, n3, o3⟩
  obtain ⟨W3, hW3⟩ : ∃ W3, w3.alloc (.cells (M.mk 0 0 2 0).cells 36) = W3 := ⟨_, rfl⟩
  have b3 : Below w3.heap.size w3 W3 := by rw [← hW3]; exact (Below.refl _ w3).alloc (Nat.le_refl _) _
  have x3 : W3.heap[w3.heap.size]? = some (.cells (M.mk 0 0 2 0).cells 36 (0, 0)) := by rw [← hW3]; exact heap_alloc_new _ _
  have d3 : W3.cell? ⟨w3.heap.size, 3, none⟩ = some (.int .i64 2) := (cell_of_block x3).trans rfl
  have LN := hide (len_any W3 (n3.below b3))
  have HB3 := hide (((unhide HB2).trans o3.1).trans (b3.mono (Nat.le_trans s2 o3.size)))
  have HW3 := hide hW3
  clear n3 o3 b3 x3 hW3 DV HB2
  go_upto_region 6 with fail
  rw [show w3.alloc (.cells #[.int .i64 0, .int .i64 0, .int .i64 0, .int .i64 2, .int .i64 0, .int .i64 0, .int .i64 0, .int .i64 0, .bool false, .slice none 0 0, .slice none 0 0, .slice none 0 0, .slice none 0 0] 36) = W3 from unhide HW3]
  clear HW3
  go_wp2_with fail
  refine (unhide LN).mono ?_
  rintro e w4 ⟨rfl, rfl⟩
  go_wp2
  go_ret
  exact ⟨rfl, unhide HB3⟩
end Go.Proofs.Ytnplhoekkoomiaa

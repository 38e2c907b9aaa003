/- link's refuse: contracts, case by case. -/
import Derived.Test.YtkanolmcaoecgaaLTaking
import Derived.Test.YtkanolmcaoecgaaLErr
namespace Go.Proofs.Ytkanolmcaoecgaa
open Go.RowKit

theorem Ref.new (w : World) (x y c : Int) {b : Nat} (hb : b = w.heap.size) : Ref (w.alloc (.cells #[.int .i64 x, .int .i64 y, .iface 35 (.int .i64 c)] 67)) b c := ⟨x, y, by rw [hb]; exact heap_alloc_new _ _⟩

set_option maxHeartbeats 1000000 in
theorem refuse_arg (h : Hd) (l n : Int) (w : World) (hA : l < 1 ∨ n < 1) :
    Calls Try.prog 19 #[.agg h.cells, .int .i64 l, .int .i64 n] w fun e w' => (∃ b, e = .returned (refV b) ∧ Ref w' b 1) ∧ Below w.heap.size w w' := by
  by_cases h1 : l < 1
  · clear hA
    go_enter Try.func19, Try.ntmps19
    go_wp2
    go_ret
    exact ⟨⟨_, rfl, Ref.new _ _ _ _ (by first | rfl | omega | (rw [World.size_alloc]))⟩, ((Below.refl _ w).alloc (Nat.le_refl _) _).alloc (by rw [World.size_alloc]; omega) _⟩
  · have h2 : n < 1 := by omega
    clear hA
    go_enter Try.func19, Try.ntmps19
    go_wp2
    go_ret
    exact ⟨⟨_, rfl, Ref.new _ _ _ _ (by first | rfl | omega | (rw [World.size_alloc]))⟩, ((Below.refl _ w).alloc (Nat.le_refl _) _).alloc (by rw [World.size_alloc]; omega) _⟩

theorem box_heard (w : World) (h : Hd) : ∃ W, w.alloc (.cells h.cells 59) = W ∧ W.heap[w.heap.size]? = some (.cells h.cells 59 (0, 0)) ∧ Below w.heap.size w W ∧ W.heap.size = w.heap.size + 1 :=
  ⟨_, rfl, heap_alloc_new _ _, (Below.refl _ w).alloc (Nat.le_refl _) _, World.size_alloc _ _⟩

set_option maxHeartbeats 1000000 in
theorem refuse_stale (h : Hd) (l n : Int) (w : World) (hl : 1 ≤ l) (hn : 1 ≤ n) (hs : l < (h.life : Int)) :
    Calls Try.prog 19 #[.agg h.cells, .int .i64 l, .int .i64 n] w fun e w' => (∃ b, e = .returned (refV b) ∧ Ref w' b 19) ∧ Below w.heap.size w w' := by
  obtain ⟨W, hW, x1, bW, sW⟩ := box_heard w h
  have c0 : W.cell? ⟨w.heap.size, 0, none⟩ = some (.int .i64 (h.life : Int)) := bcell x1 rfl
  have HW := hide hW
  have BW := hide bW
  clear hW x1 bW
  go_enter Try.func19, Try.ntmps19
  go_upto_region 1 with fail
  rw [unhide HW]
  go_wp2
  go_ret
  exact ⟨⟨_, rfl, Ref.new _ _ _ _ (by first | rfl | omega | (rw [World.size_alloc]))⟩, (unhide BW).alloc (by omega) _⟩

set_option maxHeartbeats 1000000 in
theorem refuse_newer (h : Hd) (l n : Int) (w : World) (hl : 1 ≤ l) (hn : 1 ≤ n) (hs : (h.life : Int) < l) :
    Calls Try.prog 19 #[.agg h.cells, .int .i64 l, .int .i64 n] w fun e w' => e = .returned .nilIface ∧ Below w.heap.size w w' := by
  obtain ⟨W, hW, x1, bW, sW⟩ := box_heard w h
  have c0 : W.cell? ⟨w.heap.size, 0, none⟩ = some (.int .i64 (h.life : Int)) := bcell x1 rfl
  have HW := hide hW
  have BW := hide bW
  have hne : ¬ l = (h.life : Int) := by omega
  clear hW x1 bW
  go_enter Try.func19, Try.ntmps19
  go_upto_region 1 with fail
  rw [unhide HW]
  go_wp2
  go_ret
  exact ⟨rfl, unhide BW⟩

set_option maxHeartbeats 1000000 in
theorem refuse_known (h : Hd) (l : Int) (n : Nat) (w : World) (ho : h.ok) (hL : (h.life : Int) = l) (hl : 1 ≤ l) (hn : (1 : Int) ≤ (n : Int)) (hn63 : n < 9223372036854775808) (hk : h.knows n = true) :
    Calls Try.prog 19 #[.agg h.cells, .int .i64 l, .int .i64 (n : Int)] w fun e w' => (∃ b, e = .returned (refV b) ∧ Ref w' b 7) ∧ Below w.heap.size w w' := by
  obtain ⟨W, hW, x1, bW, sW⟩ := box_heard w h
  have c0 : W.cell? ⟨w.heap.size, 0, none⟩ = some (.int .i64 l) := by rw [← hL]; exact bcell x1 rfl
  have c1 : W.cell? ⟨w.heap.size, 1, none⟩ = some (.int .i64 (h.top : Int)) := bcell x1 rfl
  have c2 : W.cell? ⟨w.heap.size, 2, none⟩ = some (.int .u64 (h.w0 : Int)) := bcell x1 rfl
  have c3 : W.cell? ⟨w.heap.size, 3, none⟩ = some (.int .u64 (h.w1 : Int)) := bcell x1 rfl
  have c4 : W.cell? ⟨w.heap.size, 4, none⟩ = some (.int .u64 (h.w2 : Int)) := bcell x1 rfl
  have c5 : W.cell? ⟨w.heap.size, 5, none⟩ = some (.int .u64 (h.w3 : Int)) := bcell x1 rfl
  have kn := fun w => knows_any h n w ho hn63
  rw [hk] at kn
  simp only [Hd.cells, hL] at kn
  have KN := hide kn
  have HW := hide hW
  have BW := hide bW
  have SW := hide sW
  clear hW x1 bW kn hk hL sW
  go_enter Try.func19, Try.ntmps19
  go_upto_region 1 with fail
  rw [unhide HW]
  go_wp2_with (go_at_call 23; refine (unhide KN _).mono ?_; rintro e w1 ⟨rfl, b1⟩)
  all_goals go_ret
  all_goals
    have s1 := b1.size
    have s2 := unhide SW
    exact ⟨⟨_, rfl, Ref.new _ _ _ _ rfl⟩, ((unhide BW).trans (b1.mono (by omega))).alloc (by omega) _⟩
set_option maxHeartbeats 1000000 in
theorem refuse_free (h : Hd) (l : Int) (n : Nat) (w : World) (ho : h.ok) (hL : (h.life : Int) = l) (hl : 1 ≤ l) (hn : (1 : Int) ≤ (n : Int)) (hn63 : n < 9223372036854775808) (hk : h.knows n = false) :
    Calls Try.prog 19 #[.agg h.cells, .int .i64 l, .int .i64 (n : Int)] w fun e w' => e = .returned .nilIface ∧ Below w.heap.size w w' := by
  obtain ⟨W, hW, x1, bW, sW⟩ := box_heard w h
  have c0 : W.cell? ⟨w.heap.size, 0, none⟩ = some (.int .i64 l) := by rw [← hL]; exact bcell x1 rfl
  have c1 : W.cell? ⟨w.heap.size, 1, none⟩ = some (.int .i64 (h.top : Int)) := bcell x1 rfl
  have c2 : W.cell? ⟨w.heap.size, 2, none⟩ = some (.int .u64 (h.w0 : Int)) := bcell x1 rfl
  have c3 : W.cell? ⟨w.heap.size, 3, none⟩ = some (.int .u64 (h.w1 : Int)) := bcell x1 rfl
  have c4 : W.cell? ⟨w.heap.size, 4, none⟩ = some (.int .u64 (h.w2 : Int)) := bcell x1 rfl
  have c5 : W.cell? ⟨w.heap.size, 5, none⟩ = some (.int .u64 (h.w3 : Int)) := bcell x1 rfl
  have kn := fun w => knows_any h n w ho hn63
  rw [hk] at kn
  simp only [Hd.cells, hL] at kn
  have KN := hide kn
  have HW := hide hW
  have BW := hide bW
  have SW := hide sW
  clear hW x1 bW kn hk hL sW
  go_enter Try.func19, Try.ntmps19
  go_upto_region 1 with fail
  rw [unhide HW]
  go_wp2_with (go_at_call 23; refine (unhide KN _).mono ?_; rintro e w1 ⟨rfl, b1⟩)
  all_goals go_ret
  all_goals
    have s1 := b1.size
    have s2 := unhide SW
    exact ⟨rfl, (unhide BW).trans (b1.mono (by omega))⟩
end Go.Proofs.Ytkanolmcaoecgaa

/- seal: isEngine, follows, wrong: contracts. -/
import Derived.Test.YtgllokinadjiaaaSRead
import Derived.Test.YtgllokinadjiaaaSErr
import Derived.Test.YtgllokinadjiaaaEQuiet
import Derived.Test.YtgllokinadjiaaaKCheck
namespace Go.Proofs.Ytgllokinadjiaaa
open Go.RowKit Go.Maps

theorem isEngine_any (k : Int) (w : World) : Calls Try.prog 32 #[.int .i64 k] w fun e w' => e = .returned (.bool (decide (k = 1 ∨ k = 2))) ∧ w' = w := by
  by_cases h1 : k = 1
  · subst h1
    go_enter Try.func32, Try.ntmps32
    go_wp2
    go_ret
    exact ⟨rfl, rfl⟩
  · have q1 : (k == 1) = false := by simp [h1]
    by_cases h2 : k = 2
    · subst h2
      go_enter Try.func32, Try.ntmps32
      go_wp2
      go_ret
      exact ⟨rfl, rfl⟩
    · have q2 : (k == 2) = false := by simp [h2]
      have HD : Hid (decide (k = 1 ∨ k = 2) = false) := hide (decide_eq_false (by rintro (h | h) <;> contradiction))
      rw [unhide HD]
      clear h1 h2 HD
      go_enter Try.func32, Try.ntmps32
      go_wp2
      go_ret
      exact ⟨rfl, rfl⟩
/-- has it the number and the base of one that comes next? -/
def followsOf (gs : List Gn) (n base : Int) : Bool := match gs[gs.length - 1]? with
  | none => decide (1 ≤ n) && decide (0 ≤ base)
  | some l => (n == IntKind.i64.wrap (l.n + 1)) && decide (l.base < base)
theorem boxG (w : World) (n e b : Int) (xo mo : Option Addr) (xn xc m mc : Nat) : ∃ W, w.alloc (.cells #[.int .i64 n, .int .i64 e, .int .i64 b, .slice xo xn xc, .slice mo m mc] 32) = W ∧ Below w.heap.size w W ∧ W.heap[w.heap.size]? = some (.cells #[.int .i64 n, .int .i64 e, .int .i64 b, .slice xo xn xc, .slice mo m mc] 32 (0, 0)) :=
  ⟨_, rfl, (Below.refl _ w).alloc (Nat.le_refl _) _, box_at _ _⟩
set_option maxRecDepth 20000 in
set_option maxHeartbeats 1000000 in
theorem follows_nil {D : Nat → Prop} {w : World} {p : Nat} (h : Gs D w p []) (n e b : Int) (xo mo : Option Addr) (xn xc m mc : Nat) :
    Calls Try.prog 31 #[.pointer (some ⟨p, 0, none⟩), .agg #[.int .i64 n, .int .i64 e, .int .i64 b, .slice xo xn xc, .slice mo m mc]] w fun e w' => e = .returned (.bool (decide (1 ≤ n) && decide (0 ≤ b))) ∧ Below w.heap.size w w' := by
  obtain ⟨⟨rv, hbx, hrr⟩, hDp, hlt⟩ := h
  obtain ⟨ao, ca, rfl, -⟩ := hrr.slice
  obtain ⟨W, hW, bW, xW⟩ := boxG w n e b xo mo xn xc m mc
  have pc : W.cell? ⟨p, 0, none⟩ = some (.slice ao 0 ca) := (cell_of_block (Below.stay bW hbx)).trans rfl
  have k0 : W.cell? ⟨w.heap.size, 0, none⟩ = some (.int .i64 n) := (cell_of_block xW).trans rfl
  have k2 : W.cell? ⟨w.heap.size, 2, none⟩ = some (.int .i64 b) := (cell_of_block xW).trans rfl
  have HW := hide hW
  have BW := hide bW
  clear hbx hrr hDp hlt hW bW xW
  by_cases h1 : 1 ≤ n
  · by_cases h2 : 0 ≤ b
    · rw [decide_eq_true h1, decide_eq_true h2]
      go_enter Try.func31, Try.ntmps31
      go_upto_region 1 with fail
      rw [unhide HW]
      go_wp2
      go_ret
      exact ⟨rfl, unhide BW⟩
    · rw [decide_eq_true h1, decide_eq_false h2]
      go_enter Try.func31, Try.ntmps31
      go_upto_region 1 with fail
      rw [unhide HW]
      go_wp2
      go_ret
      exact ⟨rfl, unhide BW⟩
  · rw [decide_eq_false h1]
    go_enter Try.func31, Try.ntmps31
    go_upto_region 1 with fail
    rw [unhide HW]
    go_wp2
    go_ret
    exact ⟨rfl, unhide BW⟩
set_option maxRecDepth 20000 in
set_option maxHeartbeats 2000000 in
theorem follows_last {D : Nat → Prop} {w : World} {p : Nat} {gs : List Gn} (h : Gs D w p gs) (hl : gs.length ≤ 1000000) {l : Gn} (hg : gs[gs.length - 1]? = some l) (n e b : Int) (xo mo : Option Addr) (xn xc m mc : Nat) :
    Calls Try.prog 31 #[.pointer (some ⟨p, 0, none⟩), .agg #[.int .i64 n, .int .i64 e, .int .i64 b, .slice xo xn xc, .slice mo m mc]] w fun e w' => e = .returned (.bool ((n == IntKind.i64.wrap (l.n + 1)) && decide (l.base < b))) ∧ Below w.heap.size w w' := by
  obtain ⟨lo, lc, -, CLA⟩ := last_all h hl hg
  have hn0 : 0 < gs.length := by have := (List.getElem?_eq_some_iff.1 hg).1; omega
  obtain ⟨⟨rv, hbx, hrr⟩, hDp, hlt⟩ := h
  obtain ⟨ao, ca, rfl, -⟩ := hrr.slice
  obtain ⟨W, hW, bW, xW⟩ := boxG w n e b xo mo xn xc m mc
  obtain ⟨N, hN⟩ : ∃ N, gs.length = N := ⟨_, rfl⟩
  rw [hN] at hbx hn0
  have pc : W.cell? ⟨p, 0, none⟩ = some (.slice ao N ca) := (cell_of_block (Below.stay bW hbx)).trans rfl
  have f0 : ∀ s : Bel W, s.w.cell? ⟨w.heap.size, 0, none⟩ = some (.int .i64 n) := fun s => s.cell ((cell_of_block xW).trans rfl)
  have f2 : ∀ s : Bel W, s.w.cell? ⟨w.heap.size, 2, none⟩ = some (.int .i64 b) := fun s => s.cell ((cell_of_block xW).trans rfl)
  have CL := hide (fun s : Bel W => s.call (CLA s.w (below_far bW s.b)))
  obtain ⟨ln, le, lb, lms⟩ := l
  unfold gnV at CL
  simp only at CL ⊢
  obtain ⟨n1, hn1⟩ : ∃ n1, IntKind.i64.wrap (ln + 1) = n1 := ⟨_, rfl⟩
  rw [hn1]
  have FN := field_n
  have FB := field_base
  have q0 : ((N : Int) == 0) = false := by simp; omega
  have HW := hide hW
  have BW := hide bW
  clear hbx hrr hDp hlt hW bW xW CLA hg hn0 hN
  by_cases h1 : n = n1
  · subst h1
    by_cases h2 : lb < b
    · rw [decide_eq_true h2]
      go_enter Try.func31, Try.ntmps31
      go_upto_region 1 with fail
      rw [unhide HW]
      go_upto_region 3 with fail
      have nebel := Bel.ne W
      refine quiet_bel (by kernel_rfl) (by kernel_rfl) ?_
      repeat (go_big_quiet_step (first | exact unhide CL _ | fail))
      refine wpQuiet_nil ?_
      intro wq hwq
      have bq := Bel.of hwq
      clear hwq nebel
      go_wp2
      go_ret
      exact ⟨by simp, below_far (unhide BW) bq⟩
    · rw [decide_eq_false h2]
      go_enter Try.func31, Try.ntmps31
      go_upto_region 1 with fail
      rw [unhide HW]
      go_upto_region 3 with fail
      have nebel := Bel.ne W
      refine quiet_bel (by kernel_rfl) (by kernel_rfl) ?_
      repeat (go_big_quiet_step (first | exact unhide CL _ | fail))
      refine wpQuiet_nil ?_
      intro wq hwq
      have bq := Bel.of hwq
      clear hwq nebel
      go_wp2
      go_ret
      exact ⟨by simp, below_far (unhide BW) bq⟩
  · have q1 : (n == n1) = false := by simp [h1]
    rw [q1]
    clear h1
    go_enter Try.func31, Try.ntmps31
    go_upto_region 1 with fail
    rw [unhide HW]
    go_upto_region 3 with fail
    have nebel := Bel.ne W
    refine quiet_bel (by kernel_rfl) (by kernel_rfl) ?_
    repeat (go_big_quiet_step (first | exact unhide CL _ | fail))
    refine wpQuiet_nil ?_
    intro wq hwq
    have bq := Bel.of hwq
    clear hwq nebel
    go_wp2
    go_ret
    exact ⟨rfl, below_far (unhide BW) bq⟩
theorem follows_any {D : Nat → Prop} {w : World} {p : Nat} {gs : List Gn} (h : Gs D w p gs) (hl : gs.length ≤ 1000000) (n e b : Int) (xo mo : Option Addr) (xn xc m mc : Nat) :
    Calls Try.prog 31 #[.pointer (some ⟨p, 0, none⟩), .agg #[.int .i64 n, .int .i64 e, .int .i64 b, .slice xo xn xc, .slice mo m mc]] w fun e w' => e = .returned (.bool (followsOf gs n b)) ∧ Below w.heap.size w w' := by
  unfold followsOf
  cases hq : gs[gs.length - 1]? with
  | none =>
    obtain rfl : gs = [] := by
      rw [List.getElem?_eq_none_iff] at hq
      exact List.eq_nil_of_length_eq_zero (by omega)
    exact follows_nil h n e b xo mo xn xc m mc
  | some l => exact follows_last h hl hq n e b xo mo xn xc m mc
end Go.Proofs.Ytgllokinadjiaaa

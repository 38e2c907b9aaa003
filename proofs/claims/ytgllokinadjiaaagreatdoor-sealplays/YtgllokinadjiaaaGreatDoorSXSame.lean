/- synodalref17's Same: a contract. -/
import Derived.Test.YtgllokinadjiaaaGreatDoorSTwin
import Derived.Test.YtgllokinadjiaaaGreatDoorWwReadPut
import Derived.Test.YtgllokinadjiaaaGreatDoorSKnown
namespace Go.Proofs.YtgllokinadjiaaaGreatDoor
open Go.RowKit Go.Maps

def gsame (x y : Gn) : Bool := decide (x.n = y.n) && (decide (x.eng = y.eng) && (decide (x.base = y.base) && decide (x.ms = y.ms)))
theorem gsame_self (x : Gn) : gsame x x = true := by simp [gsame]
theorem gsame_iff (x y : Gn) : gsame x y = true ↔ x = y := by
  obtain ⟨a, b, c, d⟩ := x
  obtain ⟨a', b', c', d'⟩ := y
  simp [gsame]
set_option maxRecDepth 20000 in
set_option maxHeartbeats 2000000 in
theorem xsame_gn (x y : Gn) (xo yo : Option Addr) (xn yn xc yc : Nat) (hx : x.ms.length = xn) (hy : y.ms.length = yn) (hxl : xn ≤ 1000000) (w : World) (ix : IntsR w xo x.ms) (iy : IntsR w yo y.ms) :
    Calls Tryz.prog 14 #[.agg #[.int .i64 x.n, .int .i64 x.eng, .int .i64 x.base, .slice none 0 0, .slice xo xn xc], .agg #[.int .i64 y.n, .int .i64 y.eng, .int .i64 y.base, .slice none 0 0, .slice yo yn yc]] w fun e w' => e = .returned (.bool (gsame x y)) ∧ Below w.heap.size w w' := by
  obtain ⟨a, b, c, ms⟩ := x
  obtain ⟨a', b', c', ms'⟩ := y
  simp only at hx hy ix iy ⊢
  obtain ⟨W0, hW0⟩ : ∃ W, w.alloc (.cells #[.int .i64 a, .int .i64 b, .int .i64 c, .slice none 0 0, .slice xo xn xc] 26) = W := ⟨_, rfl⟩
  obtain ⟨W, hW⟩ : ∃ W, W0.alloc (.cells #[.int .i64 a', .int .i64 b', .int .i64 c', .slice none 0 0, .slice yo yn yc] 26) = W := ⟨_, rfl⟩
  have s0 : W0.heap.size = w.heap.size + 1 := by rw [← hW0]; simp
  have b0 : Below w.heap.size w W0 := by rw [← hW0]; exact (Below.refl _ w).alloc (Nat.le_refl _) _
  have b1 : Below W0.heap.size W0 W := by rw [← hW]; exact (Below.refl _ W0).alloc (Nat.le_refl _) _
  have bW := below_far b0 b1
  have x0 : W.heap[w.heap.size]? = some (.cells #[.int .i64 a, .int .i64 b, .int .i64 c, .slice none 0 0, .slice xo xn xc] 26 (0, 0)) := Below.stay b1 (by rw [← hW0]; exact box_at _ _)
  have x1 : W.heap[w.heap.size + 1]? = some (.cells #[.int .i64 a', .int .i64 b', .int .i64 c', .slice none 0 0, .slice yo yn yc] 26 (0, 0)) := by rw [← s0, ← hW]; exact box_at _ _
  have HW : Hid ((w.alloc (.cells #[.int .i64 a, .int .i64 b, .int .i64 c, .slice none 0 0, .slice xo xn xc] 26)).alloc (.cells #[.int .i64 a', .int .i64 b', .int .i64 c', .slice none 0 0, .slice yo yn yc] 26) = W) := by rw [hW0]; exact hW
  have k0 : W.cell? ⟨w.heap.size, 0, none⟩ = some (.int .i64 a) := (cell_of_block x0).trans rfl
  have k1 : W.cell? ⟨w.heap.size, 1, none⟩ = some (.int .i64 b) := (cell_of_block x0).trans rfl
  have k2 : W.cell? ⟨w.heap.size, 2, none⟩ = some (.int .i64 c) := (cell_of_block x0).trans rfl
  have k3 : W.cell? ⟨w.heap.size, 3, none⟩ = some (.slice none 0 0) := (cell_of_block x0).trans rfl
  have k4 : W.cell? ⟨w.heap.size, 4, none⟩ = some (.slice xo xn xc) := (cell_of_block x0).trans rfl
  have l0 : W.cell? ⟨w.heap.size + 1, 0, none⟩ = some (.int .i64 a') := (cell_of_block x1).trans rfl
  have l1 : W.cell? ⟨w.heap.size + 1, 1, none⟩ = some (.int .i64 b') := (cell_of_block x1).trans rfl
  have l2 : W.cell? ⟨w.heap.size + 1, 2, none⟩ = some (.int .i64 c') := (cell_of_block x1).trans rfl
  have l3 : W.cell? ⟨w.heap.size + 1, 3, none⟩ = some (.slice none 0 0) := (cell_of_block x1).trans rfl
  have l4 : W.cell? ⟨w.heap.size + 1, 4, none⟩ = some (.slice yo yn yc) := (cell_of_block x1).trans rfl
  have CS := rsame_any none xo none yo 0 xn 0 xc 0 yn 0 yc [] ms [] ms' rfl hx rfl hy (by decide) hxl W (IntsR.nil _ _) (ix.below bW) (IntsR.nil _ _) (iy.below bW)
  rw [show sameOf [] ms [] ms' = decide (ms = ms') by simp [sameOf]] at CS
  obtain ⟨t, ht⟩ : ∃ t, decide (ms = ms') = t := ⟨_, rfl⟩
  rw [ht] at CS
  have HG : Hid (gsame ⟨a, b, c, ms⟩ ⟨a', b', c', ms'⟩ = (decide (a = a') && (decide (b = b') && (decide (c = c') && t)))) := hide (by simp only [gsame, ht])
  rw [unhide HG]
  have CS' := hide CS
  have BW := hide bW
  clear HG ht CS hW0 hW s0 b0 b1 bW x0 x1 hx hy ix iy hxl
  by_cases h1 : a = a'
  · by_cases h2 : b = b'
    · by_cases h3 : c = c'
      · subst h1 h2 h3
        simp only [decide_true, Bool.true_and]
        go_enter Tryz.func14, Tryz.ntmps14
        go_upto_region 1 with fail
        rw [unhide HW]
        go_wp2_with fail
        refine (unhide CS').mono ?_
        rintro e w1 ⟨rfl, b1⟩
        have B1 := hide b1
        clear b1
        go_wp2
        go_ret
        exact ⟨rfl, below_far (unhide BW) (unhide B1)⟩
      · have q3 : (c == c') = false := by simp [h3]
        rw [decide_eq_true h1, decide_eq_true h2, decide_eq_false h3]
        subst h1 h2
        clear h3
        go_enter Tryz.func14, Tryz.ntmps14
        go_upto_region 1 with fail
        rw [unhide HW]
        go_wp2
        go_ret
        exact ⟨rfl, unhide BW⟩
    · have q2 : (b == b') = false := by simp [h2]
      rw [decide_eq_true h1, decide_eq_false h2]
      subst h1
      clear h2
      go_enter Tryz.func14, Tryz.ntmps14
      go_upto_region 1 with fail
      rw [unhide HW]
      go_wp2
      go_ret
      exact ⟨rfl, unhide BW⟩
  · have q1 : (a == a') = false := by simp [h1]
    rw [decide_eq_false h1]
    clear h1
    go_enter Tryz.func14, Tryz.ntmps14
    go_upto_region 1 with fail
    rw [unhide HW]
    go_wp2
    go_ret
    exact ⟨rfl, unhide BW⟩
end Go.Proofs.YtgllokinadjiaaaGreatDoor

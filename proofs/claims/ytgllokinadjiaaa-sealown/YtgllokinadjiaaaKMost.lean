/- conf.most, conf.Joint, conf.Quorum: contracts. -/
import Derived.Test.YtgllokinadjiaaaSBase
import Derived.Test.YtgllokinadjiaaaKPure
namespace Go.Proofs.Ytgllokinadjiaaa
open Go.RowKit

theorem cnt_succ {xs : List Int} {k : Nat} (h : k < xs.length) (ys : List Int) : cnt (xs.take (k + 1)) ys = cnt (xs.take k) ys + if ys.contains (xs.getD k 0) = true then 1 else 0 := by
  rw [take_succ xs 0 k h]
  unfold cnt
  rw [List.countP_append, List.countP_cons, List.countP_nil]; simp
theorem cnt_yes {xs ys : List Int} {k C : Nat} (h : k < xs.length) (hC : cnt (xs.take k) ys = C) (hy : ys.contains (xs.getD k 0) = true) : cnt (xs.take (k + 1)) ys = C + 1 := by rw [cnt_succ h, if_pos hy, hC]
theorem cnt_no {xs ys : List Int} {k C : Nat} (h : k < xs.length) (hC : cnt (xs.take k) ys = C) (hy : ys.contains (xs.getD k 0) = false) : cnt (xs.take (k + 1)) ys = C := by rw [cnt_succ h, if_neg (by rw [hy]; exact Bool.false_ne_true), hC]; rfl
theorem lt_le {xs : List Int} (h : xs.Pairwise (· < ·)) : xs.Pairwise (· ≤ ·) := h.imp (by intro a b h; omega)

set_option maxHeartbeats 1000000 in
theorem joint_any (vo vn : Value) (ao : Option Addr) (n c : Nat) (hv : vo = .slice ao n c) (w : World) :
    Calls Try.prog 34 #[.agg #[vo, vn]] w fun e w' => e = .returned (.bool (decide (0 < n))) ∧ Below w.heap.size w w' := by
  subst hv
  go_enter Try.func34, Try.ntmps34
  go_wp2
  go_ret
  exact ⟨rfl, (Below.refl _ w).alloc (Nat.le_refl _) _⟩

/-! ### a configuration in a box -/
theorem two_cells {w : World} {B : Nat} {x y : Value} {t : TypeId} {fr : Nat × Nat} (h : w.heap[B]? = some (.cells #[x, y] t fr)) : w.cell? ⟨B, 0, none⟩ = some x ∧ w.cell? ⟨B, 1, none⟩ = some y := by
  constructor <;> simp [World.cell?, h]
theorem box_kept {w w' : World} {o : Obj} (hb : Below (w.alloc o).heap.size (w.alloc o) w') : w'.heap[w.heap.size]? = some o := by
  rw [hb.block w.heap.size (by simp)]; exact box_at w o
/-- Old is empty just where it has no members. -/
theorem empty_len {xs : List Int} {n : Nat} (h : xs.length = n) : xs.isEmpty = !decide (0 < n) := by
  cases xs with
  | nil => simp at h; subst h; rfl
  | cons x xs => simp at h; subst h; simp

end Go.Proofs.Ytgllokinadjiaaa

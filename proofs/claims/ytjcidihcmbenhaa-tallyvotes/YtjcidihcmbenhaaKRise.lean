/- slices.Sort, Compact, BinarySearch, Grow: contracts as they are wanted here. -/
import Derived.Test.YtjcidihcmbenhaaKRow
import Derived.Test.YtjcidihcmbenhaaKPure
import Derived.Test.YtjcidihcmbenhaaKShelf
import Derived.Lib.OwnBridge
namespace Go.Proofs.Ytjcidihcmbenhaa
open Go.RowKit Go.Maps Go.Sort Go.Shelf

theorem below_os (w : World) (os : Array Obj) : Below w.heap.size w (grow w os) :=
  ⟨rfl, rfl, rfl, by simp [grow], fun k hk => by simp [grow, Array.getElem?_append_left hk]⟩
theorem mergeSort_len (xs : List Int) : (xs.mergeSort fun x y => decide (x ≤ y)).length = xs.length := by simp
theorem sort_ir {base : Nat} {v : Value} {xs : List Int} (w : World) (h : Ir base w v xs) (hl : xs.length ≤ 1000000) :
    Calls Try.prog 43 #[v] w fun e w' => e = .returned (.tuple #[]) ∧ Ir base w' v (xs.mergeSort fun x y => decide (x ≤ y)) ∧ Below base w w' := by
  by_cases hv : v = .slice none 0 0
  · subst hv
    have hx : xs = [] := by
      rcases h.2 with ⟨_, h0⟩ | ⟨g, cap, cur, e, _⟩
      · exact List.eq_nil_of_length_eq_zero h0
      · cases e
    subst hx
    refine (AnyM.slices_Sort_int_none Try.sortA none 0 w).mono ?_
    rintro e w' ⟨rfl, rfl⟩
    exact ⟨rfl, by simpa using h, Below.refl _ _⟩
  · obtain ⟨g, cap, rfl, hb, hg, hc, hm, _, hH⟩ := Lib.holds_of_ownsRow h hv
    refine (AnyM.slices_Sort_int Try.sortA g 0 cap xs w hH hg (by omega)).mono ?_
    rintro e w' ⟨rfl, q, os, rfl⟩
    have ho := Lib.ownsRow_putRow (enc := Value.int .i64) (q := q) (k := xs.length) (ys := xs.mergeSort fun x y => decide (x ≤ y)) h (mergeSort_len xs) (Nat.le_refl _)
    rw [List.take_of_length_le (by rw [mergeSort_len]; exact Nat.le_refl _)] at ho
    have bp := Lib.below_putRow (enc := Value.int .i64) (q := q) (d := (xs.mergeSort fun x y => decide (x ≤ y)).toArray) (Below.refl base w) hb
    refine ⟨rfl, ?_, bp.trans ((below_os _ os).mono (Nat.le_trans (Nat.le_trans hb (Nat.le_of_lt hg)) bp.size))⟩
    unfold Ir
    rw [mergeSort_len]
    exact own_below ho (below_os _ os)
theorem comp_ir {base : Nat} {v : Value} {xs : List Int} (w : World) (h : Ir base w v xs) (hl : xs.length ≤ 1000000) :
    Calls Try.prog 51 #[v] w fun e w' => ∃ v', e = .returned v' ∧ Ir base w' v' (Lib.compact xs) ∧ Below base w w' := by
  by_cases hv : v = .slice none 0 0
  · subst hv
    have hx : xs = [] := by
      rcases h.2 with ⟨_, h0⟩ | ⟨g, cap, cur, e, _⟩
      · exact List.eq_nil_of_length_eq_zero h0
      · cases e
    subst hx
    refine (AnyG.slices_Compact_int_empty Try.compA none 0 w).mono ?_
    rintro e w' ⟨rfl, rfl⟩
    exact ⟨_, rfl, by simpa [Lib.compact, Lib.compactUpTo] using h, Below.refl _ _⟩
  · obtain ⟨g, cap, rfl, hb, hg, hc, hm, _, hH⟩ := Lib.holds_of_ownsRow h hv
    refine (AnyG.slices_Compact_int Try.compA g 0 cap xs w hH (by omega) hc).mono ?_
    rintro e w' ⟨rfl, q, rfl⟩
    have hle := Lib.compact_length_le xs
    have ho := Lib.ownsRow_putRow (enc := Value.int .i64) (q := q) (k := (Lib.compact xs).length) (ys := Lib.compact xs ++ List.replicate (xs.length - (Lib.compact xs).length) 0) h (by simp; omega) hle
    rw [List.take_left] at ho
    exact ⟨_, rfl, ho, Lib.below_putRow (Below.refl base w) hb⟩
theorem bs_fr (ao : Option Addr) (n c : Nat) (xs : List Int) (hn : xs.length = n) (hl : n ≤ 1000000) (x : Int) (w : World) (h : Fr w ao xs) (hs : xs.Pairwise (· ≤ ·)) :
    Calls Try.prog 55 #[.slice ao n c, .int .i64 x] w fun e w' => ∃ z : Int, e = .returned (.tuple #[.int .i64 z, .bool (xs.contains x)]) ∧ Below w.heap.size w w' := by
  rcases h.at with rfl | ⟨b, off, rfl, hc⟩
  · obtain rfl : n = 0 := hn.symm
    refine (Any.slices_BinarySearch_int_empty Try.bs0A ao c x w).mono ?_
    rintro e w' ⟨rfl, rfl⟩
    exact ⟨0, rfl, Below.refl _ _⟩
  · refine (AnyG.slices_BinarySearch_int Try.bsA b off n c xs x w (by omega) (by omega) hc (by rw [List.take_of_length_le (by omega)]; exact hs)).mono ?_
    rintro e w' ⟨rfl, q, rfl⟩
    rw [List.take_of_length_le (by omega)]
    exact ⟨_, rfl, drewN_below _ _⟩
theorem grow_ir (n : Nat) (hl : n ≤ 1000000) (w : World) :
    Calls Try.prog 58 #[.slice none 0 0, .int .i64 n] w fun e w' => ∃ v, e = .returned v ∧ Ir w.heap.size w' v [] ∧ Below w.heap.size w w' := by
  by_cases h0 : n = 0
  · subst h0
    refine (Any8.slices_Grow_room Try.growA none 0 0 0 w (by omega) (by omega) (by omega) (by omega)).mono ?_
    rintro e w' ⟨rfl, rfl⟩
    exact ⟨_, rfl, Ir.nil _ _, Below.refl _ _⟩
  · obtain ⟨i0, hi0, hz0, hz1, hz2⟩ := info_parts Try.infoI
    refine (Any8.slices_Grow_grow Try.growA i0 (.int .i64 0) hi0 hz0 (by omega) none 0 0 n [] w (by omega) (by omega) (by rw [hz2]; omega) (by omega) (by simp) (fun _ => rfl) (fun a ha => by cases ha)).mono ?_
    rintro e w' ⟨rfl, rfl⟩
    have h1 := grownCap_ge w (0 + n) 0 3
    have h2 := grownCap_le_maxLen w (0 + n) 0 3 (by unfold maxLen; omega)
    refine ⟨_, rfl, ⟨by simp [i64s], Or.inr ⟨w.heap.size, grownCap w (0 + n) 0 3, _, rfl, Nat.le_refl _, heap_alloc_new w.drew _, Nat.zero_le _, h2, ?_, by simp [i64s]⟩⟩, (drewN_below w 1).alloc (Nat.le_refl _) _⟩
    simp only [Array.size_append, List.size_toArray, size_zeroCells, Value.cells, List.length_nil, List.length_cons]
    change 0 + (0 + n - 0) * 1 + (grownCap w (0 + n) 0 3 - (0 + n)) * 1 = _
    omega
end Go.Proofs.Ytjcidihcmbenhaa

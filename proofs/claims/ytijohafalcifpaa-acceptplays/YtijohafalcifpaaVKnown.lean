/- synodallaw13: few, known: contracts. -/
import Derived.Test.YtijohafalcifpaaVAccept
namespace Go.Proofs.Ytijohafalcifpaa
open Go.RowKit Go.Maps

set_option maxRecDepth 20000 in
theorem few_any (e : En) (mo : Option Addr) (mc : Nat) (w : World) :
    Calls Try.prog 11 #[.agg #[.int .i64 e.kind, .int .i64 e.client, .int .i64 e.seq, .string e.text, .slice mo e.ms.length mc, .int .i64 e.dest]] w fun x w' => x = .returned (.bool (decide (e.text.size < 300 ∧ e.ms.length < 50))) ∧ Below w.heap.size w w' := by
  obtain ⟨W, hW⟩ : ∃ W, w.alloc (.cells #[.int .i64 e.kind, .int .i64 e.client, .int .i64 e.seq, .string e.text, .slice mo e.ms.length mc, .int .i64 e.dest] 32) = W := ⟨_, rfl⟩
  have bW : Below w.heap.size w W := by rw [← hW]; exact (Below.refl _ w).alloc (Nat.le_refl _) _
  have x0 : W.heap[w.heap.size]? = some (.cells #[.int .i64 e.kind, .int .i64 e.client, .int .i64 e.seq, .string e.text, .slice mo e.ms.length mc, .int .i64 e.dest] 32 (0, 0)) := by rw [← hW]; exact box_at _ _
  have k3 : W.cell? ⟨w.heap.size, 3, none⟩ = some (.string e.text) := (cell_of_block x0).trans rfl
  have k4 : W.cell? ⟨w.heap.size, 4, none⟩ = some (.slice mo e.ms.length mc) := (cell_of_block x0).trans rfl
  have BW := hide bW
  have HW := hide hW
  clear bW x0 hW
  generalize e.ms.length = m at *
  generalize e.text = t at *
  by_cases h1 : t.size < 300
  · by_cases h2 : m < 50
    · rw [decide_eq_true ⟨h1, h2⟩]
      go_enter Try.func11, Try.ntmps11
      go_upto_region 1 with fail
      rw [unhide HW]
      go_wp2
      go_ret
      exact ⟨by first | rfl | (simp; omega), unhide BW⟩
    · rw [decide_eq_false (fun h => h2 h.2)]
      go_enter Try.func11, Try.ntmps11
      go_upto_region 1 with fail
      rw [unhide HW]
      go_wp2
      go_ret
      exact ⟨by first | rfl | (simp; omega), unhide BW⟩
  · rw [decide_eq_false (fun h => h1 h.1)]
    go_enter Try.func11, Try.ntmps11
    go_upto_region 1 with fail
    rw [unhide HW]
    go_wp2
    go_ret
    exact ⟨by first | rfl | (simp; omega), unhide BW⟩
set_option maxRecDepth 20000 in
set_option maxHeartbeats 1000000 in
theorem known_any (w : World) : Calls Try.prog 9 #[] w fun e w' => e = .returned (.bool true) ∧ Below w.heap.size w w' := by
  have C := hide (new_any w)
  go_enter Try.func9, Try.ntmps9
  go_wp2_with fail
  refine (unhide C).mono ?_
  rintro e w1 ⟨p, q, rfl, A1, b1⟩
  have C2 := hide (prepare_ok w1 5 1 A1 (by decide))
  have D1 : Hid (∀ k, w.heap.size ≤ k ∧ k < w1.heap.size → w.heap.size ≤ k) := fun k h => h.1
  have B1 := hide b1
  have HP := hide A1.own.1.1
  clear A1 b1 C
  go_wp2_with fail
  refine (unhide C2).mono ?_
  rintro e w2 ⟨rv, rfl, -, A2, k2⟩
  have C3 := accept_no w2 4 1 ⟨0, 0, 0, ⟨#[]⟩, [], 0⟩ none 0 A2 (by decide)
  simp only [List.length_nil] at C3
  rw [show noOf 5 4 (decide ((1 : Int) < 1 ∨ (64 : Int) < 1)) = 19 by decide] at C3
  have CC := hide C3
  have A2' := hide A2
  have B2 := hide (k2.below (base := w.heap.size) (fun k hk => by rw [hk]; exact unhide HP) (unhide B1).size)
  clear C3 A2 k2 C2
  go_wp2_with (first
    | (go_at_call 12; refine (unhide CC).mono ?_; rintro e w3 ⟨rfl, b3⟩; have A3 := hide ((unhide A2').below b3); have B3 := hide b3; clear b3)
    | (go_at_call 20; refine (promised_any _ (unhide A3)).mono ?_; rintro e w4 ⟨rfl, hw⟩; replace hw := hw.symm; subst hw))
  go_ret
  exact ⟨rfl, ((unhide B1).trans (unhide B2)).trans ((unhide B3).mono (by have := (unhide B1).size; have := (unhide B2).size; omega))⟩
end Go.Proofs.Ytijohafalcifpaa

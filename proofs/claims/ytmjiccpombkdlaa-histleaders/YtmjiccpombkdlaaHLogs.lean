/- Three logs in a row: what is kept of them. -/
import Derived.Test.YtmjiccpombkdlaaHLead
import Derived.Test.YtmjiccpombkdlaaHKnown
import Derived.Test.YtmjiccpombkdlaaHWithin
import Derived.Test.YtmjiccpombkdlaaHFrom2
namespace Go.Proofs.Ytmjiccpombkdlaa
open Go.RowKit Go.Maps

structure Logs (R : Nat → List Rw) (Ds : Nat → Nat → Prop) (ps : Nat → Nat) (lo lb : Nat) (w : World) : Prop where
  hs : ∀ j, j < 3 → Hs (Ds j) w (ps j) 0 (R j)
  ap : ∀ i j, i < 3 → j < 3 → i ≠ j → ∀ k, Ds i k → ¬ Ds j k
  low : ∀ j, j < 3 → ∀ k, Ds j k → lo ≤ k
  box : w.heap[lb]? = some (.cells #[.pointer (some ⟨ps 0, 0, none⟩), .pointer (some ⟨ps 1, 0, none⟩), .pointer (some ⟨ps 2, 0, none⟩)] 26 (0, 0))
  out : ∀ j, j < 3 → ¬ Ds j lb
theorem Logs.below {R : Nat → List Rw} {Ds : Nat → Nat → Prop} {ps : Nat → Nat} {lo lb : Nat} {w w' : World} (h : Logs R Ds ps lo lb w) (hb : Below w.heap.size w w') : Logs R Ds ps lo lb w' :=
  ⟨fun j hj => (h.hs j hj).below hb, h.ap, h.low, Below.stay hb h.box, h.out⟩
theorem Logs.cell {R : Nat → List Rw} {Ds : Nat → Nat → Prop} {ps : Nat → Nat} {lo lb : Nat} {w : World} (h : Logs R Ds ps lo lb w) {j : Nat} (hj : j < 3) : w.cell? ⟨lb, j, none⟩ = some (.pointer (some ⟨ps j, 0, none⟩)) := by
  rw [cell_of_block h.box]
  have : j = 0 ∨ j = 1 ∨ j = 2 := by omega
  rcases this with rfl | rfl | rfl <;> rfl
theorem Logs.step {R : Nat → List Rw} {Ds : Nat → Nat → Prop} {ps : Nat → Nat} {lo lb : Nat} {w w' : World} (h : Logs R Ds ps lo lb w) {a : Nat} (ha : a < 3) {X : List Rw} (hX : Hs (News (Ds a) w w') w' (ps a) 0 X) (hk : Kp (Ds a) w w') (hlo : lo ≤ w.heap.size) :
    Logs (upd R a X) (upd Ds a (News (Ds a) w w')) ps lo lb w' := by
  refine ⟨fun j hj => ?_, fun i j hi hj hij k => ?_, fun j hj k => ?_, hk.block h.box (h.out a ha), fun j hj => ?_⟩
  · unfold upd; split
    · rename_i e; rw [e]; exact hX
    · rename_i e; exact (h.hs j hj).kp hk (h.ap j a hj ha e)
  · unfold upd; split
    · rename_i e1
      split
      · rename_i e2; omega
      · rename_i e2
        intro x y
        rcases x with x | x
        · exact h.ap a j ha hj (fun e => e2 e.symm) k x y
        · have := (h.hs j hj).lt k y; omega
    · rename_i e1
      split
      · rename_i e2
        intro x y
        rcases y with y | y
        · exact h.ap i a hi ha e1 k x y
        · have := (h.hs i hi).lt k x; omega
      · exact h.ap i j hi hj hij k
  · unfold upd; split
    · intro x
      rcases x with x | x
      · exact h.low a ha k x
      · omega
    · exact h.low j hj k
  · unfold upd; split
    · intro x
      rcases x with x | x
      · exact h.out a ha x
      · have := heap_lt h.box; omega
    · exact h.out j hj
def ptr3 (a b c j : Nat) : Nat := if j = 0 then a else if j = 1 then b else c
theorem Logs.first {w : World} {lo a b c lb : Nat} (ha : Hs (fun k => k = a) w a 0 []) (hb : Hs (fun k => k = b) w b 0 []) (hc : Hs (fun k => k = c) w c 0 []) (h1 : lo ≤ a) (h2 : a < b) (h3 : b < c) (h4 : c < lb)
    (hx : w.heap[lb]? = some (.cells #[.pointer (some ⟨a, 0, none⟩), .pointer (some ⟨b, 0, none⟩), .pointer (some ⟨c, 0, none⟩)] 26 (0, 0))) : Logs (fun _ => []) (fun j k => k = ptr3 a b c j) (ptr3 a b c) lo lb w := by
  refine ⟨fun j hj => ?_, fun i j hi hj hij k x y => ?_, fun j hj k x => ?_, hx, fun j hj x => ?_⟩
  · have : j = 0 ∨ j = 1 ∨ j = 2 := by omega
    rcases this with rfl | rfl | rfl
    · exact ha
    · exact hb
    · exact hc
  · have hi3 : i = 0 ∨ i = 1 ∨ i = 2 := by omega
    have hj3 : j = 0 ∨ j = 1 ∨ j = 2 := by omega
    rcases hi3 with rfl | rfl | rfl <;> rcases hj3 with rfl | rfl | rfl <;> simp [ptr3] at x y hij <;> omega
  · have hj3 : j = 0 ∨ j = 1 ∨ j = 2 := by omega
    rcases hj3 with rfl | rfl | rfl <;> simp [ptr3] at x <;> omega
  · have hj3 : j = 0 ∨ j = 1 ∨ j = 2 := by omega
    rcases hj3 with rfl | rfl | rfl <;> simp [ptr3] at x <;> omega
end Go.Proofs.Ytmjiccpombkdlaa

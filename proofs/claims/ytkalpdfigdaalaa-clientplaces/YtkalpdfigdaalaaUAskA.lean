/- A table of the law's own; an array of numbers: plain. -/
import Derived.Test.YtkalpdfigdaalaaUPure2
namespace Go.Proofs.Ytkalpdfigdaalaa
open Go.RowKit Go.Maps

/-- a table whose memory is not older than a world, and none of some blocks. -/
def Own (w0 : World) (X : Nat → Prop) (w : World) (p q : Nat) (es : List En) : Prop := ∃ D, Tb D w p q es ∧ ∀ k, D k → w0.heap.size ≤ k ∧ ¬ X k
theorem Own.below {w0 w w' : World} {X : Nat → Prop} {p q : Nat} {es : List En} (h : Own w0 X w p q es) (hb : Below w.heap.size w w') : Own w0 X w' p q es := by
  obtain ⟨D, h1, h2⟩ := h
  exact ⟨D, h1.below hb, h2⟩
theorem Own.new {w w' : World} {p q : Nat} (h : Tb (fun k => w.heap.size ≤ k ∧ k < w'.heap.size) w' p q []) (B : Nat) (hB : w'.heap.size ≤ B) : Own w (fun k => k = B) w' p q [] := ⟨_, h, fun k hk => ⟨hk.1, by omega⟩⟩
/-- a store into such a block. -/
theorem Own.store {w0 w : World} {B : Nat} {p q : Nat} {es : List En} (h : Own w0 (fun k => k = B) w p q es) (i : Nat) (u : Value) : Own w0 (fun k => k = B) (w.setCell ⟨B, i, none⟩ u) p q es := by
  obtain ⟨D, h1, h2⟩ := h
  exact ⟨D, h1.kp (E := fun k => k = B) (Kp.setCell (D := fun k => k = B) (Kp.refl _ w) (p := ⟨B, i, none⟩) rfl u) (fun k hk => (h2 k hk).2), h2⟩
/-- Put of any entry, from a table of one's own; a block that is none of its stays. -/
theorem own_put {w0 w : World} {X : Nat → Prop} {p q : Nat} {es : List En} (h : Own w0 X w p q es) (hw0 : w0.heap.size ≤ w.heap.size) (hX : ∀ k, X k → k < w.heap.size) (hl : es.length ≤ 100000) (hr : Rise es) (e : En) (mo : Option Addr) (m mc : Nat) (hnn : e.ms.length = m) (hln : m ≤ 1000000) (hw : IntsR w mo e.ms) (hc : wf64 e.client) :
    Calls Try.prog 12 #[.pointer (some ⟨p, 0, none⟩), .agg #[.int .i64 e.kind, .int .i64 e.client, .int .i64 e.seq, .string e.text, .slice mo m mc, .int .i64 e.dest]] w fun x w' => x = .returned (.tuple #[.int .i64 (placeOf es e), .bool (decide (mayPut es e))]) ∧ Own w0 X w' p q (putOf es e) ∧ Below w0.heap.size w w' ∧ ∀ k, X k → w'.heap[k]? = w.heap[k]? := by
  obtain ⟨D, h1, h2⟩ := h
  refine (put_any h1 hl hr e mo m mc hnn hln hw hc).mono ?_
  rintro x w' ⟨rfl, ht, hk⟩
  refine ⟨rfl, ⟨_, ht, fun k hk' => ?_⟩, hk.below (fun k hk' => (h2 k hk').1) hw0, fun k hx => hk.2 k (hX k hx) (fun hd => (h2 k hd).2 hx)⟩
  rcases hk' with x | x
  · exact h2 k x
  · exact ⟨by omega, fun hx => by have := hX k hx; omega⟩
theorem own_ask {w0 w : World} {X : Nat → Prop} {p q : Nat} {es : List En} (h : Own w0 X w p q es) (hl : es.length ≤ 1000000) (hr : Rise es) (c s : Int) (hc : wf64 c) :
    Calls Try.prog 17 #[.pointer (some ⟨p, 0, none⟩), .int .i64 c, .int .i64 s] w fun e w' => e = .returned (.tuple #[.int .i64 (findOf es c s).1, .int .i64 (findOf es c s).2]) ∧ Below w.heap.size w w' := by
  obtain ⟨D, h1, -⟩ := h
  exact ask_any h1 hl hr c s hc
theorem own_len {w0 w : World} {X : Nat → Prop} {p q : Nat} {es : List En} (h : Own w0 X w p q es) : Calls Try.prog 14 #[.pointer (some ⟨p, 0, none⟩)] w fun e w' => e = .returned (.int .i64 (es.length : Int)) ∧ w' = w := by
  obtain ⟨D, h1, -⟩ := h
  exact len_any h1
/-- an array of n numbers in a block. -/
def Nums (w : World) (B n : Nat) (t : TypeId) (H : Nat → Int) : Prop := ∃ cs : Array Value, w.heap[B]? = some (.cells cs t (0, 0)) ∧ cs.size = n ∧ ∀ i, i < n → cs[i]? = some (.int .i64 (H i))
theorem Nums.at {w : World} {B n : Nat} {t : TypeId} {H : Nat → Int} (h : Nums w B n t H) {i : Nat} (hi : i < n) : w.cell? ⟨B, i, none⟩ = some (.int .i64 (H i)) := by
  obtain ⟨cs, h1, -, h3⟩ := h
  rw [cell_of_block h1]; exact h3 i hi
theorem Nums.free {w : World} {B n : Nat} {t : TypeId} {H : Nat → Int} (h : Nums w B n t H) (i : Nat) : w.frozen? ⟨B, i, none⟩ = false := by
  obtain ⟨cs, h1, -⟩ := h
  exact free_of_block h1
theorem Nums.put {w : World} {B n : Nat} {t : TypeId} {H : Nat → Int} (h : Nums w B n t H) {i : Nat} (hi : i < n) (x : Int) : Nums (w.setCell ⟨B, i, none⟩ (.int .i64 x)) B n t (fun j => if j = i then x else H j) := by
  obtain ⟨cs, h1, h2, h3⟩ := h
  refine ⟨_, setCell_block h1, by simpa using h2, fun j hj => ?_⟩
  simp only [Array.getElem?_setIfInBounds]
  by_cases e : j = i
  · subst e; simp [h2, hj]
  · rw [if_neg (fun x => e x.symm), if_neg e]; exact h3 j hj
theorem Nums.keep {w w' : World} {B n : Nat} {t : TypeId} {H : Nat → Int} (h : Nums w B n t H) {base : Nat} (hb : Below base w w') (hB : B < base) : Nums w' B n t H := by
  obtain ⟨cs, h1, h2⟩ := h
  exact ⟨cs, (hb.block B hB).trans h1, h2⟩
theorem Nums.same {w w' : World} {B n : Nat} {t : TypeId} {H : Nat → Int} (h : Nums w B n t H) (hb : w'.heap[B]? = w.heap[B]?) : Nums w' B n t H := by
  obtain ⟨cs, h1, h2⟩ := h
  exact ⟨cs, hb.trans h1, h2⟩
theorem Nums.lt {w : World} {B n : Nat} {t : TypeId} {H : Nat → Int} (h : Nums w B n t H) : B < w.heap.size := by
  obtain ⟨cs, h1, -⟩ := h
  exact heap_lt h1
end Go.Proofs.Ytkalpdfigdaalaa

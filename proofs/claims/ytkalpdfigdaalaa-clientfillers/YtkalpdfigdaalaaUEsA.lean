/- Slices of entries as they come in; synodallaw18.few: a contract. -/
import Derived.Test.YtkalpdfigdaalaaUTop
import Derived.Test.YtkalpdfigdaalaaUAll
namespace Go.Proofs.Ytkalpdfigdaalaa
open Go.RowKit Go.Maps
attribute [local go_sem ↓] Go.wp_at_zero Go.wp_at_succ

/-- a slice of entries, as it comes in. -/
def EsA (w : World) (ao : Option Addr) (es : List En) : Prop :=
  ∀ (i : Nat) (e : En), es[i]? = some e → ∃ g off mo cap, ao = some ⟨g, off, none⟩ ∧ (∀ (j : Nat) (u : Value), (e.cells (.slice mo e.ms.length cap))[j]? = some u → w.cell? ⟨g, off + i * 6 + j, none⟩ = some u) ∧ IntsR w mo e.ms ∧ e.ms.length ≤ maxLen ∧ e.text.size ≤ maxLen ∧ wf64 e.client
theorem EsA.below {w w' : World} {ao : Option Addr} {es : List En} (h : EsA w ao es) (hb : Below w.heap.size w w') : EsA w' ao es := fun i e hi => by
  obtain ⟨g, off, mo, cap, h1, h2, h3, h4⟩ := h i e hi
  exact ⟨g, off, mo, cap, h1, fun j u hj => by rw [hb.cell (blk_lt (h2 j u hj))]; exact h2 j u hj, h3.below hb, h4⟩
theorem EsA.at {w : World} {ao : Option Addr} {es : List En} (h : EsA w ao es) {k : Nat} {e : En} (he : es[k]? = some e) :
    ∃ g off mo cap, ao = some ⟨g, off, none⟩ ∧ w.cell? ⟨g, off + k * 6, none⟩ = some (.int .i64 e.kind) ∧ w.cell? ⟨g, off + k * 6 + 1, none⟩ = some (.int .i64 e.client) ∧ w.cell? ⟨g, off + k * 6 + 2, none⟩ = some (.int .i64 e.seq) ∧ w.cell? ⟨g, off + k * 6 + 3, none⟩ = some (.string e.text) ∧ w.cell? ⟨g, off + k * 6 + 4, none⟩ = some (.slice mo e.ms.length cap) ∧ w.cell? ⟨g, off + k * 6 + 5, none⟩ = some (.int .i64 e.dest) ∧ IntsR w mo e.ms ∧ e.ms.length ≤ maxLen ∧ e.text.size ≤ maxLen ∧ wf64 e.client := by
  obtain ⟨g, off, mo, cap, h1, h3, h4, h5⟩ := h k e he
  obtain ⟨k0, k1, k2, k3, k4, k5⟩ := En.six h3
  exact ⟨g, off, mo, cap, h1, k0, k1, k2, k3, k4, k5, h4, h5⟩
/-- an entry that is not too much. -/
abbrev fewE (e : En) : Prop := e.text.size < 300 ∧ e.ms.length < 50
set_option maxRecDepth 20000 in
theorem few_any (e : En) (mo : Option Addr) (m mc : Nat) (hm : e.ms.length = m) (w : World) :
    Calls Try.prog 10 #[.agg #[.int .i64 e.kind, .int .i64 e.client, .int .i64 e.seq, .string e.text, .slice mo m mc, .int .i64 e.dest]] w fun x w' => x = .returned (.bool (decide (fewE e))) ∧ Below w.heap.size w w' := by
  obtain ⟨W, hW, bW, xW⟩ := boxE w e.kind e.client e.seq e.text mo m mc e.dest
  have k3 : W.cell? ⟨w.heap.size, 3, none⟩ = some (.string e.text) := (cell_of_block xW).trans rfl
  have k4 : W.cell? ⟨w.heap.size, 4, none⟩ = some (.slice mo m mc) := (cell_of_block xW).trans rfl
  unfold fewE
  rw [hm]
  obtain ⟨t, ht⟩ : ∃ t, e.text.size = t := ⟨_, rfl⟩
  have HW := hide hW
  have BW := hide bW
  clear hW xW bW hm
  rw [ht]
  by_cases h1 : t < 300
  · have q1 : (e.text.size : Int) < 300 := by omega
    by_cases h2 : m < 50
    · have q2 : (m : Int) < 50 := by omega
      rw [decide_eq_true (And.intro h1 h2)]
      clear ht
      go_enter Try.func10, Try.ntmps10
      go_upto_region 1 with fail
      rw [unhide HW]
      go_wp2
      go_ret
      exact ⟨rfl, unhide BW⟩
    · have q2 : ¬ (m : Int) < 50 := by omega
      rw [decide_eq_false (fun h : t < 300 ∧ m < 50 => h2 h.2)]
      clear ht
      go_enter Try.func10, Try.ntmps10
      go_upto_region 1 with fail
      rw [unhide HW]
      go_wp2
      go_ret
      exact ⟨rfl, unhide BW⟩
  · have q1 : ¬ (e.text.size : Int) < 300 := by omega
    rw [decide_eq_false (fun h : t < 300 ∧ m < 50 => h1 h.1)]
    clear ht
    go_enter Try.func10, Try.ntmps10
    go_upto_region 1 with fail
    rw [unhide HW]
    go_wp2
    go_ret
    exact ⟨rfl, unhide BW⟩
/-- Put of what is not placed, from a table of one's own. -/
theorem own_no {w0 w : World} {X : Nat → Prop} {p q : Nat} {es : List En} (h : Own w0 X w p q es) (hl : es.length ≤ 1000000) (hr : Rise es) (e : En) (mo : Option Addr) (m mc : Nat) (hc : wf64 e.client) (hn : ¬ mayPut es e) :
    Calls Try.prog 12 #[.pointer (some ⟨p, 0, none⟩), .agg #[.int .i64 e.kind, .int .i64 e.client, .int .i64 e.seq, .string e.text, .slice mo m mc, .int .i64 e.dest]] w fun x w' => x = .returned (.tuple #[.int .i64 0, .bool false]) ∧ Below w.heap.size w w' := by
  obtain ⟨D, h1, -⟩ := h
  exact put_no h1 hl hr e mo m mc hc hn
theorem own_all {w0 w : World} {X : Nat → Prop} {p q : Nat} {es : List En} (h : Own w0 X w p q es) {n : Nat} (hn : es.length = n) (hl : n ≤ 1000000) :
    Calls Try.prog 16 #[.pointer (some ⟨p, 0, none⟩)] w fun e w' => ∃ b, e = .returned (.slice (some ⟨b, 0, none⟩) n n) ∧ ERow (fun k => w.heap.size ≤ k ∧ k < w'.heap.size) w' (.slice (some ⟨b, 0, none⟩) n n) es ∧ Below w.heap.size w w' := by
  obtain ⟨D, h1, -⟩ := h
  exact all_any h1 hn hl
end Go.Proofs.Ytkalpdfigdaalaa

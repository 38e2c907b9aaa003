/- synodallaw2.GoodMsg: a contract. What the listed variables give a walk, and a start that holds them. Arguments: what a slice of bytes holds; that what was read reads as it did. Arguments: what an entry and a message hold. -/
import Derived.Test.YtojmnlbdhpledaaDoorCutsB
import Derived.Test.YtojmnlbdhpledaaDoorRows
import Derived.Test.YtojmnlbdhpledaaDoorSplitW
import Derived.ChangeVars
import Derived.JoinedOf
import Derived.LaidLaws
import Derived.LaidHandle
import Derived.Lib.LaidTab
import Derived.Carry
import Derived.ProofKit
import Derived.OpenShut
import Derived.ChangeSlices
namespace Go.Proofs.YtojmnlbdhpledaaDoor
open Go.RowKit

/-- an entry such as Good makes it. -/
def goodE (e : En) : En := ⟨e.kind % 5, e.client, e.seq, goodT e.text, e.ms.take 9, e.to % 3⟩
/-- six cells an entry; their lists lie in W. -/
def Six (W : World) (vs : List Value) (gs : List En) : Prop :=
  vs.length = gs.length * 6 ∧ ∀ i, i < gs.length → ∃ r cx, vs[i * 6]? = some (.int .i64 (gs.getD i default).kind) ∧ vs[i * 6 + 1]? = some (.int .i64 (gs.getD i default).client) ∧ vs[i * 6 + 2]? = some (.int .i64 (gs.getD i default).seq) ∧
    vs[i * 6 + 3]? = some (.string (gs.getD i default).text) ∧ vs[i * 6 + 4]? = some (.slice r (gs.getD i default).ms.length cx) ∧ vs[i * 6 + 5]? = some (.int .i64 (gs.getD i default).to) ∧
    (∀ j, j < (gs.getD i default).ms.length → ∃ a, r = some a ∧ W.cell? (a.add j) = some (.int .i64 ((gs.getD i default).ms.getD j 0))) ∧ (gs.getD i default).text.size ≤ maxLen ∧ (gs.getD i default).ms.length ≤ cx ∧ cx ≤ maxLen ∧ (r = none → cx = 0)
theorem Six.nil (W : World) : Six W [] [] := ⟨rfl, fun i hi => by simp at hi⟩
theorem Six.snoc {W : World} {vs : List Value} {gs : List En} (h : Six W vs gs) (e : En) (r : Option Addr) (cx : Nat) (hm : ∀ j, j < e.ms.length → ∃ a, r = some a ∧ W.cell? (a.add j) = some (.int .i64 (e.ms.getD j 0))) (ht : e.text.size ≤ maxLen) (h1 : e.ms.length ≤ cx) (h2 : cx ≤ maxLen) (h3 : r = none → cx = 0) :
    Six W (vs ++ [.int .i64 e.kind, .int .i64 e.client, .int .i64 e.seq, .string e.text, .slice r e.ms.length cx, .int .i64 e.to]) (gs ++ [e]) := by
  refine ⟨by simp [h.1]; omega, fun i hi => ?_⟩
  rw [List.length_append, List.length_singleton] at hi
  by_cases hlt : i < gs.length
  · have eg : (gs ++ [e]).getD i default = gs.getD i default := by simp only [List.getD_eq_getElem?_getD]; rw [List.getElem?_append_left hlt]
    rw [eg]
    have hv := h.1
    obtain ⟨r', cx', a0, a1, a2, a3, a4, a5, rest⟩ := h.2 i hlt
    refine ⟨r', cx', ?_, ?_, ?_, ?_, ?_, ?_, rest⟩ <;> rw [List.getElem?_append_left (by omega)] <;> assumption
  · have hie : i = gs.length := by omega
    subst hie
    have eg : (gs ++ [e]).getD gs.length default = e := by simp [List.getD_eq_getElem?_getD]
    rw [eg]
    have hv := h.1
    refine ⟨r, cx, ?_, ?_, ?_, ?_, ?_, ?_, hm, ht, h1, h2, h3⟩
    · rw [List.getElem?_append_right (by omega), show gs.length * 6 - vs.length = 0 by omega]; rfl
    · rw [List.getElem?_append_right (by omega), show gs.length * 6 + 1 - vs.length = 1 by omega]; rfl
    · rw [List.getElem?_append_right (by omega), show gs.length * 6 + 2 - vs.length = 2 by omega]; rfl
    · rw [List.getElem?_append_right (by omega), show gs.length * 6 + 3 - vs.length = 3 by omega]; rfl
    · rw [List.getElem?_append_right (by omega), show gs.length * 6 + 4 - vs.length = 4 by omega]; rfl
    · rw [List.getElem?_append_right (by omega), show gs.length * 6 + 5 - vs.length = 5 by omega]; rfl
theorem Six.at {W w : World} {vs : List Value} {gs : List En} {base : Nat} {ao : Option Addr} {n cap : Nat} (h : Six W vs gs) (hn : gs.length = n) (ho : w.ownsRow base 24 6 (.slice ao n cap) n vs) (hb : ∀ a u, W.cell? a = some u → w.cell? a = some u) : EntsAt w ao gs := by
  intro i hi
  obtain ⟨r, cx, a0, a1, a2, a3, a4, a5, hm, rest⟩ := h.2 i hi
  obtain ⟨g, rfl⟩ : ∃ g, ao = some ⟨g, 0, none⟩ := by
    rcases ho.2 with ⟨e1, h0⟩ | ⟨g, cap', cur, e1, _⟩
    · cases e1; omega
    · cases e1; exact ⟨g, rfl⟩
  have hc : ∀ j u, vs[j]? = some u → w.cell? ⟨g, j, none⟩ = some u := fun j u hj => by
    have := ho.cells (g := g) rfl j u hj
    rwa [Addr.add_lit, Nat.zero_add] at this
  refine ⟨g, 0, r, cx, rfl, ?_, ?_, ?_, ?_, ?_, ?_, fun j hj => ?_, rest⟩
  · rw [Nat.zero_add]; exact hc _ _ a0
  · rw [Nat.zero_add]; exact hc _ _ a1
  · rw [Nat.zero_add]; exact hc _ _ a2
  · rw [Nat.zero_add]; exact hc _ _ a3
  · rw [Nat.zero_add]; exact hc _ _ a4
  · rw [Nat.zero_add]; exact hc _ _ a5
  · obtain ⟨a, ea, hh⟩ := hm j hj; exact ⟨a, ea, hb _ _ hh⟩
theorem goodT_size (t : ByteArray) : (goodT t).size ≤ 16 := by
  unfold goodT
  split
  · rw [ByteArray.size_extract]; omega
  · omega
theorem goodT_le (t : ByteArray) (_h : t.size ≤ maxLen) : (goodT t).size ≤ maxLen := by
  have := goodT_size t
  unfold maxLen; omega
theorem take_getD (ms : List Int) (j k : Nat) (h : j < (ms.take k).length) : (ms.take k).getD j 0 = ms.getD j 0 := by
  simp only [List.getD_eq_getElem?_getD, List.getElem?_take]
  rw [if_pos (by rw [List.length_take] at h; omega)]

theorem msg_end (w y : World) (v0 v1 v2 v3 v4 v5 v6 v7 v8 v9 v10 v11 v12 : Value) {z0 z1 z2 z3 z4 z5 z6 z7 z8 z9 z10 z11 z12 : Value} (hz : y.heap[w.heap.size + 1]? = some (.cells #[z0, z1, z2, z3, z4, z5, z6, z7, z8, z9, z10, z11, z12] 41 (0, 0))) (hb : Below w.heap.size w y) (W : World)
    (hW : W = (((((((((((((y.setCell ⟨w.heap.size + 1, 0, none⟩ (v0)).setCell ⟨w.heap.size + 1, 1, none⟩ (v1)).setCell ⟨w.heap.size + 1, 2, none⟩ (v2)).setCell ⟨w.heap.size + 1, 3, none⟩ (v3)).setCell ⟨w.heap.size + 1, 4, none⟩ (v4)).setCell ⟨w.heap.size + 1, 5, none⟩ (v5)).setCell ⟨w.heap.size + 1, 6, none⟩ (v6)).setCell ⟨w.heap.size + 1, 7, none⟩ (v7)).setCell ⟨w.heap.size + 1, 8, none⟩ (v8)).setCell ⟨w.heap.size + 1, 9, none⟩ (v9)).setCell ⟨w.heap.size + 1, 10, none⟩ (v10)).setCell ⟨w.heap.size + 1, 11, none⟩ (v11)).setCell ⟨w.heap.size + 1, 12, none⟩ (v12))) :
    W.cell? ⟨w.heap.size + 1, 0, none⟩ = some v0 ∧ W.cell? ⟨w.heap.size + 1, 1, none⟩ = some v1 ∧ W.cell? ⟨w.heap.size + 1, 2, none⟩ = some v2 ∧ W.cell? ⟨w.heap.size + 1, 3, none⟩ = some v3 ∧ W.cell? ⟨w.heap.size + 1, 4, none⟩ = some v4 ∧ W.cell? ⟨w.heap.size + 1, 5, none⟩ = some v5 ∧ W.cell? ⟨w.heap.size + 1, 6, none⟩ = some v6 ∧ W.cell? ⟨w.heap.size + 1, 7, none⟩ = some v7 ∧ W.cell? ⟨w.heap.size + 1, 8, none⟩ = some v8 ∧ W.cell? ⟨w.heap.size + 1, 9, none⟩ = some v9 ∧ W.cell? ⟨w.heap.size + 1, 10, none⟩ = some v10 ∧ W.cell? ⟨w.heap.size + 1, 11, none⟩ = some v11 ∧ W.cell? ⟨w.heap.size + 1, 12, none⟩ = some v12 ∧ Below w.heap.size w W ∧ Only w.heap.size [41] y W := by
  have q : Only w.heap.size [41] y W ∧ W.heap[w.heap.size + 1]? = some (.cells #[v0, v1, v2, v3, v4, v5, v6, v7, v8, v9, v10, v11, v12] 41 (0, 0)) := by
    rw [hW]
    have q0 : Only w.heap.size [41] y (y.setCell ⟨w.heap.size + 1, 0, none⟩ v0) ∧ (y.setCell ⟨w.heap.size + 1, 0, none⟩ v0).heap[w.heap.size + 1]? = some (.cells #[v0, z1, z2, z3, z4, z5, z6, z7, z8, z9, z10, z11, z12] 41 (0, 0)) := set_one (show Only w.heap.size [41] y y ∧ _ from ⟨Only.refl _ _ _, hz⟩) (Nat.le_succ _) (by simp) 0 _
    have q1 : Only w.heap.size [41] y ((y.setCell ⟨w.heap.size + 1, 0, none⟩ v0).setCell ⟨w.heap.size + 1, 1, none⟩ v1) ∧ ((y.setCell ⟨w.heap.size + 1, 0, none⟩ v0).setCell ⟨w.heap.size + 1, 1, none⟩ v1).heap[w.heap.size + 1]? = some (.cells #[v0, v1, z2, z3, z4, z5, z6, z7, z8, z9, z10, z11, z12] 41 (0, 0)) := set_one q0 (Nat.le_succ _) (by simp) 1 _
    have q2 : Only w.heap.size [41] y (((y.setCell ⟨w.heap.size + 1, 0, none⟩ v0).setCell ⟨w.heap.size + 1, 1, none⟩ v1).setCell ⟨w.heap.size + 1, 2, none⟩ v2) ∧ (((y.setCell ⟨w.heap.size + 1, 0, none⟩ v0).setCell ⟨w.heap.size + 1, 1, none⟩ v1).setCell ⟨w.heap.size + 1, 2, none⟩ v2).heap[w.heap.size + 1]? = some (.cells #[v0, v1, v2, z3, z4, z5, z6, z7, z8, z9, z10, z11, z12] 41 (0, 0)) := set_one q1 (Nat.le_succ _) (by simp) 2 _
    have q3 : Only w.heap.size [41] y ((((y.setCell ⟨w.heap.size + 1, 0, none⟩ v0).setCell ⟨w.heap.size + 1, 1, none⟩ v1).setCell ⟨w.heap.size + 1, 2, none⟩ v2).setCell ⟨w.heap.size + 1, 3, none⟩ v3) ∧ ((((y.setCell ⟨w.heap.size + 1, 0, none⟩ v0).setCell ⟨w.heap.size + 1, 1, none⟩ v1).setCell ⟨w.heap.size + 1, 2, none⟩ v2).setCell ⟨w.heap.size + 1, 3, none⟩ v3).heap[w.heap.size + 1]? = some (.cells #[v0, v1, v2, v3, z4, z5, z6, z7, z8, z9, z10, z11, z12] 41 (0, 0)) := set_one q2 (Nat.le_succ _) (by simp) 3 _
    have q4 : Only w.heap.size [41] y (((((y.setCell ⟨w.heap.size + 1, 0, none⟩ v0).setCell ⟨w.heap.size + 1, 1, none⟩ v1).setCell ⟨w.heap.size + 1, 2, none⟩ v2).setCell ⟨w.heap.size + 1, 3, none⟩ v3).setCell ⟨w.heap.size + 1, 4, none⟩ v4) ∧ (((((y.setCell ⟨w.heap.size + 1, 0, none⟩ v0).setCell ⟨w.heap.size + 1, 1, none⟩ v1).setCell ⟨w.heap.size + 1, 2, none⟩ v2).setCell ⟨w.heap.size + 1, 3, none⟩ v3).setCell ⟨w.heap.size + 1, 4, none⟩ v4).heap[w.heap.size + 1]? = some (.cells #[v0, v1, v2, v3, v4, z5, z6, z7, z8, z9, z10, z11, z12] 41 (0, 0)) := set_one q3 (Nat.le_succ _) (by simp) 4 _
    have q5 : Only w.heap.size [41] y ((((((y.setCell ⟨w.heap.size + 1, 0, none⟩ v0).setCell ⟨w.heap.size + 1, 1, none⟩ v1).setCell ⟨w.heap.size + 1, 2, none⟩ v2).setCell ⟨w.heap.size + 1, 3, none⟩ v3).setCell ⟨w.heap.size + 1, 4, none⟩ v4).setCell ⟨w.heap.size + 1, 5, none⟩ v5) ∧ ((((((y.setCell ⟨w.heap.size + 1, 0, none⟩ v0).setCell ⟨w.heap.size + 1, 1, none⟩ v1).setCell ⟨w.heap.size + 1, 2, none⟩ v2).setCell ⟨w.heap.size + 1, 3, none⟩ v3).setCell ⟨w.heap.size + 1, 4, none⟩ v4).setCell ⟨w.heap.size + 1, 5, none⟩ v5).heap[w.heap.size + 1]? = some (.cells #[v0, v1, v2, v3, v4, v5, z6, z7, z8, z9, z10, z11, z12] 41 (0, 0)) := set_one q4 (Nat.le_succ _) (by simp) 5 _
    have q6 : Only w.heap.size [41] y (((((((y.setCell ⟨w.heap.size + 1, 0, none⟩ v0).setCell ⟨w.heap.size + 1, 1, none⟩ v1).setCell ⟨w.heap.size + 1, 2, none⟩ v2).setCell ⟨w.heap.size + 1, 3, none⟩ v3).setCell ⟨w.heap.size + 1, 4, none⟩ v4).setCell ⟨w.heap.size + 1, 5, none⟩ v5).setCell ⟨w.heap.size + 1, 6, none⟩ v6) ∧ (((((((y.setCell ⟨w.heap.size + 1, 0, none⟩ v0).setCell ⟨w.heap.size + 1, 1, none⟩ v1).setCell ⟨w.heap.size + 1, 2, none⟩ v2).setCell ⟨w.heap.size + 1, 3, none⟩ v3).setCell ⟨w.heap.size + 1, 4, none⟩ v4).setCell ⟨w.heap.size + 1, 5, none⟩ v5).setCell ⟨w.heap.size + 1, 6, none⟩ v6).heap[w.heap.size + 1]? = some (.cells #[v0, v1, v2, v3, v4, v5, v6, z7, z8, z9, z10, z11, z12] 41 (0, 0)) := set_one q5 (Nat.le_succ _) (by simp) 6 _
    have q7 : Only w.heap.size [41] y ((((((((y.setCell ⟨w.heap.size + 1, 0, none⟩ v0).setCell ⟨w.heap.size + 1, 1, none⟩ v1).setCell ⟨w.heap.size + 1, 2, none⟩ v2).setCell ⟨w.heap.size + 1, 3, none⟩ v3).setCell ⟨w.heap.size + 1, 4, none⟩ v4).setCell ⟨w.heap.size + 1, 5, none⟩ v5).setCell ⟨w.heap.size + 1, 6, none⟩ v6).setCell ⟨w.heap.size + 1, 7, none⟩ v7) ∧ ((((((((y.setCell ⟨w.heap.size + 1, 0, none⟩ v0).setCell ⟨w.heap.size + 1, 1, none⟩ v1).setCell ⟨w.heap.size + 1, 2, none⟩ v2).setCell ⟨w.heap.size + 1, 3, none⟩ v3).setCell ⟨w.heap.size + 1, 4, none⟩ v4).setCell ⟨w.heap.size + 1, 5, none⟩ v5).setCell ⟨w.heap.size + 1, 6, none⟩ v6).setCell ⟨w.heap.size + 1, 7, none⟩ v7).heap[w.heap.size + 1]? = some (.cells #[v0, v1, v2, v3, v4, v5, v6, v7, z8, z9, z10, z11, z12] 41 (0, 0)) := set_one q6 (Nat.le_succ _) (by simp) 7 _
    have q8 : Only w.heap.size [41] y (((((((((y.setCell ⟨w.heap.size + 1, 0, none⟩ v0).setCell ⟨w.heap.size + 1, 1, none⟩ v1).setCell ⟨w.heap.size + 1, 2, none⟩ v2).setCell ⟨w.heap.size + 1, 3, none⟩ v3).setCell ⟨w.heap.size + 1, 4, none⟩ v4).setCell ⟨w.heap.size + 1, 5, none⟩ v5).setCell ⟨w.heap.size + 1, 6, none⟩ v6).setCell ⟨w.heap.size + 1, 7, none⟩ v7).setCell ⟨w.heap.size + 1, 8, none⟩ v8) ∧ (((((((((y.setCell ⟨w.heap.size + 1, 0, none⟩ v0).setCell ⟨w.heap.size + 1, 1, none⟩ v1).setCell ⟨w.heap.size + 1, 2, none⟩ v2).setCell ⟨w.heap.size + 1, 3, none⟩ v3).setCell ⟨w.heap.size + 1, 4, none⟩ v4).setCell ⟨w.heap.size + 1, 5, none⟩ v5).setCell ⟨w.heap.size + 1, 6, none⟩ v6).setCell ⟨w.heap.size + 1, 7, none⟩ v7).setCell ⟨w.heap.size + 1, 8, none⟩ v8).heap[w.heap.size + 1]? = some (.cells #[v0, v1, v2, v3, v4, v5, v6, v7, v8, z9, z10, z11, z12] 41 (0, 0)) := set_one q7 (Nat.le_succ _) (by simp) 8 _
    have q9 : Only w.heap.size [41] y ((((((((((y.setCell ⟨w.heap.size + 1, 0, none⟩ v0).setCell ⟨w.heap.size + 1, 1, none⟩ v1).setCell ⟨w.heap.size + 1, 2, none⟩ v2).setCell ⟨w.heap.size + 1, 3, none⟩ v3).setCell ⟨w.heap.size + 1, 4, none⟩ v4).setCell ⟨w.heap.size + 1, 5, none⟩ v5).setCell ⟨w.heap.size + 1, 6, none⟩ v6).setCell ⟨w.heap.size + 1, 7, none⟩ v7).setCell ⟨w.heap.size + 1, 8, none⟩ v8).setCell ⟨w.heap.size + 1, 9, none⟩ v9) ∧ ((((((((((y.setCell ⟨w.heap.size + 1, 0, none⟩ v0).setCell ⟨w.heap.size + 1, 1, none⟩ v1).setCell ⟨w.heap.size + 1, 2, none⟩ v2).setCell ⟨w.heap.size + 1, 3, none⟩ v3).setCell ⟨w.heap.size + 1, 4, none⟩ v4).setCell ⟨w.heap.size + 1, 5, none⟩ v5).setCell ⟨w.heap.size + 1, 6, none⟩ v6).setCell ⟨w.heap.size + 1, 7, none⟩ v7).setCell ⟨w.heap.size + 1, 8, none⟩ v8).setCell ⟨w.heap.size + 1, 9, none⟩ v9).heap[w.heap.size + 1]? = some (.cells #[v0, v1, v2, v3, v4, v5, v6, v7, v8, v9, z10, z11, z12] 41 (0, 0)) := set_one q8 (Nat.le_succ _) (by simp) 9 _
    have q10 : Only w.heap.size [41] y (((((((((((y.setCell ⟨w.heap.size + 1, 0, none⟩ v0).setCell ⟨w.heap.size + 1, 1, none⟩ v1).setCell ⟨w.heap.size + 1, 2, none⟩ v2).setCell ⟨w.heap.size + 1, 3, none⟩ v3).setCell ⟨w.heap.size + 1, 4, none⟩ v4).setCell ⟨w.heap.size + 1, 5, none⟩ v5).setCell ⟨w.heap.size + 1, 6, none⟩ v6).setCell ⟨w.heap.size + 1, 7, none⟩ v7).setCell ⟨w.heap.size + 1, 8, none⟩ v8).setCell ⟨w.heap.size + 1, 9, none⟩ v9).setCell ⟨w.heap.size + 1, 10, none⟩ v10) ∧ (((((((((((y.setCell ⟨w.heap.size + 1, 0, none⟩ v0).setCell ⟨w.heap.size + 1, 1, none⟩ v1).setCell ⟨w.heap.size + 1, 2, none⟩ v2).setCell ⟨w.heap.size + 1, 3, none⟩ v3).setCell ⟨w.heap.size + 1, 4, none⟩ v4).setCell ⟨w.heap.size + 1, 5, none⟩ v5).setCell ⟨w.heap.size + 1, 6, none⟩ v6).setCell ⟨w.heap.size + 1, 7, none⟩ v7).setCell ⟨w.heap.size + 1, 8, none⟩ v8).setCell ⟨w.heap.size + 1, 9, none⟩ v9).setCell ⟨w.heap.size + 1, 10, none⟩ v10).heap[w.heap.size + 1]? = some (.cells #[v0, v1, v2, v3, v4, v5, v6, v7, v8, v9, v10, z11, z12] 41 (0, 0)) := set_one q9 (Nat.le_succ _) (by simp) 10 _
    have q11 : Only w.heap.size [41] y ((((((((((((y.setCell ⟨w.heap.size + 1, 0, none⟩ v0).setCell ⟨w.heap.size + 1, 1, none⟩ v1).setCell ⟨w.heap.size + 1, 2, none⟩ v2).setCell ⟨w.heap.size + 1, 3, none⟩ v3).setCell ⟨w.heap.size + 1, 4, none⟩ v4).setCell ⟨w.heap.size + 1, 5, none⟩ v5).setCell ⟨w.heap.size + 1, 6, none⟩ v6).setCell ⟨w.heap.size + 1, 7, none⟩ v7).setCell ⟨w.heap.size + 1, 8, none⟩ v8).setCell ⟨w.heap.size + 1, 9, none⟩ v9).setCell ⟨w.heap.size + 1, 10, none⟩ v10).setCell ⟨w.heap.size + 1, 11, none⟩ v11) ∧ ((((((((((((y.setCell ⟨w.heap.size + 1, 0, none⟩ v0).setCell ⟨w.heap.size + 1, 1, none⟩ v1).setCell ⟨w.heap.size + 1, 2, none⟩ v2).setCell ⟨w.heap.size + 1, 3, none⟩ v3).setCell ⟨w.heap.size + 1, 4, none⟩ v4).setCell ⟨w.heap.size + 1, 5, none⟩ v5).setCell ⟨w.heap.size + 1, 6, none⟩ v6).setCell ⟨w.heap.size + 1, 7, none⟩ v7).setCell ⟨w.heap.size + 1, 8, none⟩ v8).setCell ⟨w.heap.size + 1, 9, none⟩ v9).setCell ⟨w.heap.size + 1, 10, none⟩ v10).setCell ⟨w.heap.size + 1, 11, none⟩ v11).heap[w.heap.size + 1]? = some (.cells #[v0, v1, v2, v3, v4, v5, v6, v7, v8, v9, v10, v11, z12] 41 (0, 0)) := set_one q10 (Nat.le_succ _) (by simp) 11 _
    have q12 : Only w.heap.size [41] y (((((((((((((y.setCell ⟨w.heap.size + 1, 0, none⟩ v0).setCell ⟨w.heap.size + 1, 1, none⟩ v1).setCell ⟨w.heap.size + 1, 2, none⟩ v2).setCell ⟨w.heap.size + 1, 3, none⟩ v3).setCell ⟨w.heap.size + 1, 4, none⟩ v4).setCell ⟨w.heap.size + 1, 5, none⟩ v5).setCell ⟨w.heap.size + 1, 6, none⟩ v6).setCell ⟨w.heap.size + 1, 7, none⟩ v7).setCell ⟨w.heap.size + 1, 8, none⟩ v8).setCell ⟨w.heap.size + 1, 9, none⟩ v9).setCell ⟨w.heap.size + 1, 10, none⟩ v10).setCell ⟨w.heap.size + 1, 11, none⟩ v11).setCell ⟨w.heap.size + 1, 12, none⟩ v12) ∧ (((((((((((((y.setCell ⟨w.heap.size + 1, 0, none⟩ v0).setCell ⟨w.heap.size + 1, 1, none⟩ v1).setCell ⟨w.heap.size + 1, 2, none⟩ v2).setCell ⟨w.heap.size + 1, 3, none⟩ v3).setCell ⟨w.heap.size + 1, 4, none⟩ v4).setCell ⟨w.heap.size + 1, 5, none⟩ v5).setCell ⟨w.heap.size + 1, 6, none⟩ v6).setCell ⟨w.heap.size + 1, 7, none⟩ v7).setCell ⟨w.heap.size + 1, 8, none⟩ v8).setCell ⟨w.heap.size + 1, 9, none⟩ v9).setCell ⟨w.heap.size + 1, 10, none⟩ v10).setCell ⟨w.heap.size + 1, 11, none⟩ v11).setCell ⟨w.heap.size + 1, 12, none⟩ v12).heap[w.heap.size + 1]? = some (.cells #[v0, v1, v2, v3, v4, v5, v6, v7, v8, v9, v10, v11, v12] 41 (0, 0)) := set_one q11 (Nat.le_succ _) (by simp) 12 _
    exact q12
  exact ⟨(cell_of_block q.2).trans rfl, (cell_of_block q.2).trans rfl, (cell_of_block q.2).trans rfl, (cell_of_block q.2).trans rfl, (cell_of_block q.2).trans rfl, (cell_of_block q.2).trans rfl, (cell_of_block q.2).trans rfl, (cell_of_block q.2).trans rfl, (cell_of_block q.2).trans rfl, (cell_of_block q.2).trans rfl, (cell_of_block q.2).trans rfl, (cell_of_block q.2).trans rfl, (cell_of_block q.2).trans rfl, hb.trans q.1.below, q.1⟩

end Go.Proofs.YtojmnlbdhpledaaDoor
namespace Go.Proofs.YtojmnlbdhpledaaDoor
open Go.RowKit

theorem own : ownKnob Tryd.prog.godebug = none := by kernel_rfl
theorem Tryd.et : Tryd.prog.globalNamed "errors.errorType" = some 1 := by kernel_rfl
theorem Tryd.ht : Tryd.prog.globalNamed "synodal/wire.halves" = some 0 := by kernel_rfl
theorem Tryd.rt : (Tryd.prog.cutTypes.find? (·.1 == "internal/reflectlite.rtype")).map (·.2) = some 144 := by kernel_rfl
theorem Tryd.oneRow : ((List.range 184).filter fun t => Tryd.prog.rowNamed t [101, 114, 114, 111, 114]) = [103] := by kernel_rfl
theorem Tryd.size : Tryd.prog.types.size = 184 := by kernel_rfl
def tab : List Int := Sum.halves.map Int.ofNat

theorem start_of_laid {W : World} (h : laidMetH Tryd.prog [("errors.errorType", Rows.laid_errors_errorType), ("synodal/wire.halves", Rows.laid_synodal_wire_halves)] W) : Start W := by
  have h' : laidMet Tryd.prog [("synodal/wire.halves", Rows.laid_synodal_wire_halves)] W ∧ handlesMet Tryd.prog [("errors.errorType", Rows.laid_errors_errorType)] W := h
  have g : Glob W := by
    obtain ⟨name, u, ty, e1, e2, e3, e4, e5⟩ := h'.2 _ (List.mem_singleton.2 rfl)
    have en : name = [101, 114, 114, 111, 114] := (Option.some.inj e1).symm
    subst en
    obtain rfl := Option.some.inj (Tryd.rt.symm.trans e2)
    have hm : ty ∈ (List.range 184).filter fun t => Tryd.prog.rowNamed t [101, 114, 114, 111, 114] := List.mem_filter.2 ⟨List.mem_range.2 (by rw [← Tryd.size]; exact e3), e4⟩
    rw [Tryd.oneRow] at hm
    obtain rfl := List.mem_singleton.1 hm
    have hh : typeHandle Tryd.prog 103 = .pointer (some ⟨2, 103, none⟩) := by kernel_rfl
    rw [hh] at e5
    have hc := World.var?_cell Tryd.et e5 0
    simp at hc
    exact hc
  have t : Table W := by
    have h2 : laidMet Tryd.prog (("synodal/wire.halves", Lib.tabData .u32 tab) :: []) W := h'.1
    have hi := Lib.tabIs_of_head (t := 101) (e := 64) (n := 16) Tryd.ht (by kernel_rfl) Tryd.underlying101 Tryd.underlying64 (by kernel_rfl) (by kernel_rfl) h2
    intro i hi16
    rw [hi.cell Tryd.ht i (by simpa [tab, Sum.halves] using hi16)]
    have e : ∀ i, i < 16 → tab.getD i 0 = ((Sum.halves.getD i 0 : Nat) : Int) := by decide
    rw [e i hi16]
  exact ⟨t, g, by have h1 := blk_lt (t 0 (by decide)); have h2 := blk_lt g; simp at h1 h2; omega⟩

theorem u8_wf {n : Int} (h : (Lit.int .u8 n).wf = true) : 0 ≤ n ∧ n < 256 := by
  simp [Lit.wf, IntKind.min, IntKind.max, IntKind.bits, IntKind.signed] at h; omega

theorem nat_of {n : Int} (h : (Lit.int .u8 n).wf = true) : ∃ c : Nat, n = (c : Int) ∧ c < 256 := by
  have := u8_wf h
  exact ⟨n.toNat, by omega, by omega⟩

/-- the first blocks laid as the packages lay them. -/
def layFirst (w : World) : World :=
  { w with heap := (w.heap.modify 1 fun
      | .cells _ t frozen => .cells #[.iface 144 (.agg #[.pointer (some ⟨2, 103, none⟩)])] t frozen
      | o => o).modify 0 fun
      | .cells _ t frozen => .cells (tab.map fun n => Value.int .u32 n).toArray t frozen
      | o => o }
end Go.Proofs.YtojmnlbdhpledaaDoor
namespace Go.Proofs.YtojmnlbdhpledaaDoor
open Go.ChangeShapes Go.WideShapes Go.ChangeAt Go.RowKit

theorem Tryd.laidOut : laidOutB Tryd.prog = true := by kernel_rfl
theorem Tryd.cells5 : Tryd.prog.cellsOf 5 = 1 := by kernel_rfl

theorem args_kept {H : Type} {enc : TypeId × Value → H} {W W' : World} (hb : Below W.heap.size W W') : ∀ {ts : List TypeId} {vs : List Value} {ds : List (DataW H)} {ps : List MemPlace},
    (∀ t ∈ ts, Tryd.prog.readableRec t = true ∧ t < Tryd.prog.types.size) → DataW.TrodAll enc Tryd.prog W 0 (fun _ => true) true ts vs ds ps → (∀ x ∈ ps, x.block < W.heap.size) →
    DataW.TrodAll enc Tryd.prog W' 0 (fun b => decide (b < W.heap.size)) true ts vs ds ps := by
  intro ts
  induction ts with
  | nil =>
    intro vs ds ps _ h _
    obtain ⟨rfl, rfl, rfl⟩ := trodAll_nil h
    exact trodAll_mk0
  | cons t ts ih =>
    intro vs ds ps ht h hlt
    obtain ⟨v, vs', d, ds', p, q, rfl, rfl, rfl, h1, h2⟩ := trodAll_cons h
    exact trodAll_cons_mk (Below.trod Tryd.laidOut (ht t (by simp)).1 (ht t (by simp)).2 h1 hb (fun x hx => hlt x (by simp [hx]))) (ih (fun u hu => ht u (by simp [hu])) h2 (fun x hx => hlt x (by simp [hx])))

set_option maxRecDepth 100000 in
theorem bytes_open {H : Type} {enc : TypeId × Value → H} {W : World} {base : Nat} {v : Value} {d : DataW H} {p : List MemPlace} (hv : Value.okWide Tryd.prog W .any base 27 v)
    (h : DataW.Trod enc Tryd.prog W 0 (fun _ => true) true 27 v d p) : ∃ ao n cap bs, v = .slice ao n cap ∧ bs.length = n ∧ n ≤ cap ∧ cap ≤ maxLen ∧ Bytes W ao bs ∧ (ao = none → n = 0 ∧ cap = 0) := by
  obtain ⟨a0, len, cap, rfl⟩ := okWide_slice Tryd.underlying27 hv
  obtain ⟨fuel, hf⟩ := h
  rcases open_ints Tryd.underlying27 Tryd.underlying5 Tryd.cells5 hf with ⟨hcs, hx⟩ | ⟨a, len', cap', zs, hcs, _, hl, hm, hz, hx, hcell, hwz⟩
  · simp [Value.cells] at hcs
    obtain ⟨rfl, rfl, rfl⟩ := hcs
    exact ⟨none, 0, 0, [], rfl, rfl, Nat.le_refl _, by decide, ⟨by simp, by simp⟩, fun _ => ⟨rfl, rfl⟩⟩
  · simp [Value.cells] at hcs
    obtain ⟨rfl, rfl, rfl⟩ := hcs
    simp only [if_true] at hz
    have key : ∀ i, i < len → 0 ≤ zs.getD i 0 ∧ zs.getD i 0 < 256 := by
      intro i hi
      have hi' : i < zs.length := by omega
      refine u8_wf (hwz _ ?_)
      rw [List.getD_eq_getElem?_getD, List.getElem?_eq_getElem hi']; exact List.getElem_mem hi'
    have hlen : ((zs.take len).map Int.toNat).length = len := by simp; omega
    have hget : ∀ i, i < len → ((zs.take len).map Int.toNat).getD i 0 = (zs.getD i 0).toNat := by
      intro i hi
      have hi' : i < zs.length := by omega
      simp [List.getD_eq_getElem?_getD, List.getElem?_take_of_lt hi, List.getElem?_eq_getElem hi']
    refine ⟨some a, len, cap, (zs.take len).map Int.toNat, rfl, hlen, hl, hm, ⟨?_, ?_⟩, fun h => by cases h⟩
    · intro x hx
      obtain ⟨i, hi, rfl⟩ := List.mem_iff_getElem.1 hx
      rw [hlen] at hi
      have := hget i hi
      have k := key i hi
      rw [List.getD_eq_getElem?_getD, List.getElem?_eq_getElem (by rw [hlen]; exact hi)] at this
      simp only [Option.getD_some] at this
      omega
    · intro i hi
      rw [hlen] at hi
      refine ⟨a, rfl, ?_⟩
      rw [hcell i (by omega), hget i hi, Int.toNat_of_nonneg (key i hi).1]
end Go.Proofs.YtojmnlbdhpledaaDoor
namespace Go.Proofs.YtojmnlbdhpledaaDoor
open Go.ChangeShapes Go.WideShapes Go.ChangeAt Go.RowKit

theorem Tryd.cells3 : Tryd.prog.cellsOf 3 = 1 := by kernel_rfl
theorem Tryd.cells9 : Tryd.prog.cellsOf 9 = 1 := by kernel_rfl
theorem Tryd.cellsB : Tryd.prog.cellsOf 4 = 1 := by kernel_rfl
theorem Tryd.cellsI : Tryd.prog.cellsOf 22 = 1 := by kernel_rfl
theorem Tryd.cellsS : Tryd.prog.cellsOf 37 = 1 := by kernel_rfl
theorem Tryd.cellsE : Tryd.prog.cellsOf 24 = 6 := by kernel_rfl
theorem Tryd.cellsC : Tryd.prog.cellsOf 39 = 2 := by kernel_rfl
theorem Tryd.cellsM : Tryd.prog.cellsOf 41 = 13 := by kernel_rfl

/-- a slice's numbers, and its room. -/
structure IntsAt (w : World) (ao : Option Addr) (n cap : Nat) (ys : List Int) : Prop where
  len : ys.length = n
  room : n ≤ cap
  big : cap ≤ maxLen
  nul : ao = none → cap = 0
  are : ∀ j, j < ys.length → ∃ a, ao = some a ∧ w.cell? (a.add j) = some (.int .i64 (ys.getD j 0))
theorem IntsAt.below {w w' : World} {ao : Option Addr} {n cap : Nat} {ys : List Int} (h : IntsAt w ao n cap ys) (hb : Below w.heap.size w w') : IntsAt w' ao n cap ys :=
  ⟨h.len, h.room, h.big, h.nul, fun j hj => by obtain ⟨a, ea, hc⟩ := h.are j hj; exact ⟨a, ea, by rw [hb.cell (blk_lt hc)]; exact hc⟩⟩
theorem IntsAt.take {w : World} {ao : Option Addr} {n cap : Nat} {ys : List Int} (h : IntsAt w ao n cap ys) (k : Nat) : IntsAt w ao (min n k) cap (ys.take k) :=
  ⟨by rw [List.length_take, h.len, Nat.min_comm], Nat.le_trans (Nat.min_le_left _ _) h.room, h.big, h.nul, fun j hj => by
    rw [List.length_take] at hj
    obtain ⟨a, ea, hc⟩ := h.are j (by omega)
    refine ⟨a, ea, ?_⟩
    rw [hc]
    simp [List.getD_eq_getElem?_getD, List.getElem?_take_of_lt (show j < k by omega)]⟩

section
variable {H : Type} {enc : TypeId × Value → H} {W : World} {fuel : Nat} {cs : List Value} {x : DataW H × List MemPlace}
set_option maxRecDepth 100000 in
theorem ints_trod (h : DataW.trod enc Tryd.prog W 0 (fun _ => true) true fuel 22 cs = some x) : ∃ ao n cap ys, cs = [.slice ao n cap] ∧ IntsAt W ao n cap ys := by
  rcases open_ints Tryd.underlying22 Tryd.underlying3 Tryd.cells3 h with ⟨hcs, _⟩ | ⟨a, len, cap, zs, hcs, _, hl, hm, hz, _, hcell, _⟩
  · exact ⟨none, 0, 0, [], hcs, rfl, Nat.le_refl _, by decide, fun _ => rfl, fun j hj => by simp at hj⟩
  · simp only [if_true] at hz
    have hlen : (zs.take len).length = len := by simp; omega
    refine ⟨some a, len, cap, zs.take len, hcs, hlen, hl, hm, (fun h => by cases h), fun j hj => ⟨a, rfl, ?_⟩⟩
    rw [hlen] at hj
    have hg : (zs.take len).getD j 0 = zs.getD j 0 := by simp [List.getD_eq_getElem?_getD, List.getElem?_take_of_lt hj]
    rw [hg]
    exact hcell j (by omega)

set_option maxRecDepth 100000 in
theorem entry_trod (h : DataW.trod enc Tryd.prog W 0 (fun _ => true) true fuel 24 cs = some x) :
    ∃ (e : En) (ao : Option Addr) (cap : Nat), cs = [.int .i64 e.kind, .int .i64 e.client, .int .i64 e.seq, .string e.text, .slice ao e.ms.length cap, .int .i64 e.to] ∧ IntsAt W ao e.ms.length cap e.ms ∧ e.text.size ≤ maxLen := by
  obtain ⟨xs, n, _, _, hl, hlen, hf⟩ := DataW.trod_struct Tryd.underlying24 h
  rw [Tryd.cellsE] at hl
  match cs, hl, xs, hlen with
  | [c0, c1, c2, c3, c4, c5], _, [y0, y1, y2, y3, y4, y5], _ =>
    have f0 := hf 0 _ rfl
    have f1 := hf 1 _ rfl
    have f2 := hf 2 _ rfl
    have f3 := hf 3 _ rfl
    have f4 := hf 4 _ rfl
    have f5 := hf 5 _ rfl
    simp [Tryd.cells3, Tryd.cells9, Tryd.cellsI] at f0 f1 f2 f3 f4 f5
    obtain ⟨k, e0, _⟩ := DataW.trod_int Tryd.underlying3 f0
    obtain ⟨c, e1, _⟩ := DataW.trod_int Tryd.underlying3 f1
    obtain ⟨q, e2, _⟩ := DataW.trod_int Tryd.underlying3 f2
    obtain ⟨t, e3, _, ht⟩ := DataW.trod_string Tryd.underlying9 f3
    obtain ⟨ao, m, cap, ys, e4, hy⟩ := ints_trod f4
    obtain ⟨z, e5, _⟩ := DataW.trod_int Tryd.underlying3 f5
    simp only [List.cons.injEq, and_true] at e0 e1 e2 e3 e4 e5
    obtain rfl := hy.len
    exact ⟨⟨k, c, q, t, ys, z⟩, ao, cap, by rw [e0, e1, e2, e3, e4, e5], hy, ht⟩

set_option maxRecDepth 100000 in
theorem ents_trod (h : DataW.trod enc Tryd.prog W 0 (fun _ => true) true fuel 37 cs = some x) : ∃ ao n cap es, cs = [.slice ao n cap] ∧ es.length = n ∧ n ≤ cap ∧ cap ≤ maxLen ∧ (ao = none → cap = 0) ∧ EntsAt W ao es := by
  rcases DataW.trod_slice Tryd.underlying37 h with ⟨hcs, _⟩ | ⟨a, len, cap, elems, rest, n, _, hcs, _, _, hl, hm, hlen, hel, _, _⟩
  · exact ⟨none, 0, 0, [], hcs, rfl, Nat.le_refl _, by decide, fun _ => rfl, fun j hj => by simp at hj⟩
  · have each : ∀ i, ∃ e : En, i < len → ∃ r cx, (∀ j u, ([.int .i64 e.kind, .int .i64 e.client, .int .i64 e.seq, .string e.text, .slice r e.ms.length cx, .int .i64 e.to] : List Value)[j]? = some u → W.cell? ((a.add (i * 6)).add j) = some u) ∧ IntsAt W r e.ms.length cx e.ms ∧ e.text.size ≤ maxLen := by
      intro i
      by_cases hi : i < len
      · have h1 := hel i hi
        rw [Tryd.cellsE, List.getElem?_eq_getElem (by omega)] at h1
        obtain ⟨ci, hc, ht⟩ := Option.bind_eq_some_iff.1 h1
        obtain ⟨e, ao, cx, rfl, hy, hs⟩ := entry_trod ht
        refine ⟨e, fun _ => ⟨ao, cx, fun j u hj => ?_, hy, hs⟩⟩
        have h6 : j < 6 := by
          by_cases h6 : j < 6
          · exact h6
          · rw [List.getElem?_eq_none (by simpa using h6)] at hj; cases hj
        exact ((World.cells?_some hc).2.2 j h6).trans hj
      · exact ⟨default, fun h => absurd h hi⟩
    obtain ⟨f, hf⟩ := Classical.axiomOfChoice each
    refine ⟨some a, len, cap, (List.range len).map f, hcs, by simp, hl, hm, (fun h => by cases h), fun i hi => ?_⟩
    rw [List.length_map, List.length_range] at hi
    have hg : ((List.range len).map f).getD i default = f i := by simp [List.getD_eq_getElem?_getD, hi]
    rw [hg]
    have hsp : a.spot = none := by
      obtain ⟨r, cx, hc, _⟩ := hf 0 (by omega)
      have := World.cell?_spot (hc 0 _ rfl)
      simpa [Addr.add] using this
    obtain ⟨blk, off, sp⟩ := a
    simp only at hsp
    subst hsp
    obtain ⟨r, cx, hc, hy, ht⟩ := hf i hi
    have hc' : ∀ j u, ([.int .i64 (f i).kind, .int .i64 (f i).client, .int .i64 (f i).seq, .string (f i).text, .slice r (f i).ms.length cx, .int .i64 (f i).to] : List Value)[j]? = some u → W.cell? ⟨blk, off + i * 6 + j, none⟩ = some u := fun j u hj => by
      have := hc j u hj
      rw [Addr.add_lit, Addr.add_lit] at this
      exact this
    exact ⟨blk, off, r, cx, rfl, hc' 0 _ rfl, hc' 1 _ rfl, hc' 2 _ rfl, hc' 3 _ rfl, hc' 4 _ rfl, hc' 5 _ rfl, hy.are, ht, hy.room, hy.big, hy.nul⟩

set_option maxRecDepth 100000 in
theorem msg_trod (h : DataW.trod enc Tryd.prog W 0 (fun _ => true) true fuel 41 cs = some x) :
    ∃ (x0 x1 x2 x3 x4 x5 x6 x7 : Int) (y : Bool) (aot aoe aoo aon : Option Addr) (nt ct ne ce no co nn cn : Nat) (ts : List Int) (es : List En) (os ns : List Int),
      cs = [.int .i64 x0, .int .i64 x1, .int .i64 x2, .int .i64 x3, .int .i64 x4, .int .i64 x5, .int .i64 x6, .int .i64 x7, .bool y, .slice aot nt ct, .slice aoe ne ce, .slice aoo no co, .slice aon nn cn] ∧
      IntsAt W aot nt ct ts ∧ (es.length = ne ∧ ne ≤ ce ∧ ce ≤ maxLen ∧ (aoe = none → ce = 0) ∧ EntsAt W aoe es) ∧ IntsAt W aoo no co os ∧ IntsAt W aon nn cn ns := by
  obtain ⟨xs, n, _, _, hl, hlen, hf⟩ := DataW.trod_struct Tryd.underlying41 h
  rw [Tryd.cellsM] at hl
  match cs, hl, xs, hlen with
  | [c0, c1, c2, c3, c4, c5, c6, c7, c8, c9, c10, c11, c12], _, [y0, y1, y2, y3, y4, y5, y6, y7, y8, y9, y10, y11], _ =>
    have f0 := hf 0 _ rfl
    have f1 := hf 1 _ rfl
    have f2 := hf 2 _ rfl
    have f3 := hf 3 _ rfl
    have f4 := hf 4 _ rfl
    have f5 := hf 5 _ rfl
    have f6 := hf 6 _ rfl
    have f7 := hf 7 _ rfl
    have f8 := hf 8 _ rfl
    have f9 := hf 9 _ rfl
    have f10 := hf 10 _ rfl
    have f11 := hf 11 _ rfl
    simp [Tryd.cells3, Tryd.cellsB, Tryd.cellsI, Tryd.cellsS, Tryd.cellsC] at f0 f1 f2 f3 f4 f5 f6 f7 f8 f9 f10 f11
    obtain ⟨x0, e0, _⟩ := DataW.trod_int Tryd.underlying3 f0
    obtain ⟨x1, e1, _⟩ := DataW.trod_int Tryd.underlying3 f1
    obtain ⟨x2, e2, _⟩ := DataW.trod_int Tryd.underlying3 f2
    obtain ⟨x3, e3, _⟩ := DataW.trod_int Tryd.underlying3 f3
    obtain ⟨x4, e4, _⟩ := DataW.trod_int Tryd.underlying3 f4
    obtain ⟨x5, e5, _⟩ := DataW.trod_int Tryd.underlying3 f5
    obtain ⟨x6, e6, _⟩ := DataW.trod_int Tryd.underlying3 f6
    obtain ⟨x7, e7, _⟩ := DataW.trod_int Tryd.underlying3 f7
    obtain ⟨y, e8, _⟩ := DataW.trod_bool Tryd.underlying4 f8
    obtain ⟨aot, nt, ct, ts, e9, ht⟩ := ints_trod f9
    obtain ⟨aoe, ne, ce, es, e10, he⟩ := ents_trod f10
    obtain ⟨zs, m, _, _, _, hlz, hz⟩ := DataW.trod_struct Tryd.underlying39 f11
    match zs, hlz with
    | [z0, z1], _ =>
      have g0 := hz 0 _ rfl
      have g1 := hz 1 _ rfl
      simp [Tryd.cellsI] at g0 g1
      obtain ⟨aoo, no, co, os, e11, ho⟩ := ints_trod g0
      obtain ⟨aon, nn, cn, ns, e12, hn⟩ := ints_trod g1
      simp only [List.cons.injEq, and_true] at e0 e1 e2 e3 e4 e5 e6 e7 e8 e9 e10 e11 e12
      exact ⟨x0, x1, x2, x3, x4, x5, x6, x7, y, aot, aoe, aoo, aon, nt, ct, ne, ce, no, co, nn, cn, ts, es, os, ns, by rw [e0, e1, e2, e3, e4, e5, e6, e7, e8, e9, e10, e11, e12], ht, he, ho, hn⟩
end

set_option maxRecDepth 100000 in
theorem entry_open {H : Type} {enc : TypeId × Value → H} {W : World} {base : Nat} {v : Value} {d : DataW H} {p : List MemPlace} (hv : Value.okWide Tryd.prog W .any base 24 v)
    (h : DataW.Trod enc Tryd.prog W 0 (fun _ => true) true 24 v d p) : ∃ (e : En) (ao : Option Addr) (cap : Nat), v = .agg #[.int .i64 e.kind, .int .i64 e.client, .int .i64 e.seq, .string e.text, .slice ao e.ms.length cap, .int .i64 e.to] ∧ IntsAt W ao e.ms.length cap e.ms ∧ e.text.size ≤ maxLen := by
  obtain ⟨cs, rfl, _⟩ := okWide_struct Tryd.underlying24 hv
  obtain ⟨fuel, hf⟩ := h
  obtain ⟨e, ao, cap, hc, hy, ht⟩ := entry_trod hf
  refine ⟨e, ao, cap, ?_, hy, ht⟩
  simp only [Value.cells] at hc
  rw [← hc]

set_option maxRecDepth 100000 in
theorem msg_open {H : Type} {enc : TypeId × Value → H} {W : World} {base : Nat} {v : Value} {d : DataW H} {p : List MemPlace} (hv : Value.okWide Tryd.prog W .any base 41 v)
    (h : DataW.Trod enc Tryd.prog W 0 (fun _ => true) true 41 v d p) : ∃ (x0 x1 x2 x3 x4 x5 x6 x7 : Int) (y : Bool) (aot aoe aoo aon : Option Addr) (nt ct ne ce no co nn cn : Nat) (ts : List Int) (es : List En) (os ns : List Int),
      v = .agg #[.int .i64 x0, .int .i64 x1, .int .i64 x2, .int .i64 x3, .int .i64 x4, .int .i64 x5, .int .i64 x6, .int .i64 x7, .bool y, .slice aot nt ct, .slice aoe ne ce, .slice aoo no co, .slice aon nn cn] ∧
      IntsAt W aot nt ct ts ∧ (es.length = ne ∧ ne ≤ ce ∧ ce ≤ maxLen ∧ (aoe = none → ce = 0) ∧ EntsAt W aoe es) ∧ IntsAt W aoo no co os ∧ IntsAt W aon nn cn ns := by
  obtain ⟨cs, rfl, _⟩ := okWide_struct Tryd.underlying41 hv
  obtain ⟨fuel, hf⟩ := h
  obtain ⟨x0, x1, x2, x3, x4, x5, x6, x7, y, aot, aoe, aoo, aon, nt, ct, ne, ce, no, co, nn, cn, ts, es, os, ns, hc, h1, h2, h3, h4⟩ := msg_trod hf
  refine ⟨x0, x1, x2, x3, x4, x5, x6, x7, y, aot, aoe, aoo, aon, nt, ct, ne, ce, no, co, nn, cn, ts, es, os, ns, ?_, h1, h2, h3, h4⟩
  simp only [Value.cells] at hc
  rw [← hc]
end Go.Proofs.YtojmnlbdhpledaaDoor

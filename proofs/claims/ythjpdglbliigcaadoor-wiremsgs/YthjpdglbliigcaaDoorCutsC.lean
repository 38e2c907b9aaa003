/- synodallaw2.GoodMsg: a contract. -/
import Derived.Test.YthjpdglbliigcaaDoorCutsB
namespace Go.Proofs.YthjpdglbliigcaaDoor
open Go.RowKit

/-- an entry such as Good makes it. -/
def goodE (e : En) : En := ⟨e.kind % 5, e.client, e.seq, goodT e.text, e.ms.take 9, e.to % 3⟩
/-- six cells an entry; their lists lie in W. -/
def Six (W : World) (vs : List Value) (gs : List En) : Prop :=
  vs.length = gs.length * 6 ∧ ∀ i, i < gs.length → ∃ r cx, vs[i * 6]? = some (.int .i64 (gs.getD i default).kind) ∧ vs[i * 6 + 1]? = some (.int .i64 (gs.getD i default).client) ∧ vs[i * 6 + 2]? = some (.int .i64 (gs.getD i default).seq) ∧
    vs[i * 6 + 3]? = some (.string (gs.getD i default).text) ∧ vs[i * 6 + 4]? = some (.slice r (gs.getD i default).ms.length cx) ∧ vs[i * 6 + 5]? = some (.int .i64 (gs.getD i default).to) ∧
    (∀ j, j < (gs.getD i default).ms.length → ∃ a, r = some a ∧ W.cell? (a.add j) = some (.int .i64 ((gs.getD i default).ms.getD j 0))) ∧ (gs.getD i default).text.size ≤ maxLen ∧ (gs.getD i default).ms.length ≤ cx ∧ cx ≤ maxLen ∧ (r = none → cx = 0)
theorem Six.nil (W : World) : Six W [] [] := ⟨rfl, fun i hi => by simp at hi⟩
theorem Six.snoc {W : World} {vs : List Value} {gs : List En} (h : Six W vs gs) (e : En) (r : Option Addr) (cx : Nat) (hm : ∀ j, j < e.ms.length → ∃ a, r = some a ∧ W.cell? (a.add j) = some (.int .i64 (e.ms.getD j 0))) (ht : e.text.size ≤ maxLen) (h1 : e.ms.length ≤ cx) (h2 : cx ≤ maxLen) (h3 : r = none → cx = 0) :
    Six W (vs ++ [.int .i64 e.kind, .int .i64 e.client, .int .i64 e.seq, .string e.text, .slice r e.ms.length cx, .int .i64 e.to]) (gs ++ [e]) := by
  refine ⟨by simp [h.1]; omega, fun i hi => ?_⟩
  rw [List.length_append, List.length_singleton] at hi
  by_cases hlt : i < gs.length
  · have eg : (gs ++ [e]).getD i default = gs.getD i default := by simp only [List.getD_eq_getElem?_getD]; rw [List.getElem?_append_left hlt]
    rw [eg]
    have hv := h.1
    obtain ⟨r', cx', a0, a1, a2, a3, a4, a5, rest⟩ := h.2 i hlt
    refine ⟨r', cx', ?_, ?_, ?_, ?_, ?_, ?_, rest⟩ <;> rw [List.getElem?_append_left (by omega)] <;> assumption
  · have hie : i = gs.length := by omega
    subst hie
    have eg : (gs ++ [e]).getD gs.length default = e := by simp [List.getD_eq_getElem?_getD]
    rw [eg]
    have hv := h.1
    refine ⟨r, cx, ?_, ?_, ?_, ?_, ?_, ?_, hm, ht, h1, h2, h3⟩
    · rw [List.getElem?_append_right (by omega), show gs.length * 6 - vs.length = 0 by omega]; rfl
    · rw [List.getElem?_append_right (by omega), show gs.length * 6 + 1 - vs.length = 1 by omega]; rfl
    · rw [List.getElem?_append_right (by omega), show gs.length * 6 + 2 - vs.length = 2 by omega]; rfl
    · rw [List.getElem?_append_right (by omega), show gs.length * 6 + 3 - vs.length = 3 by omega]; rfl
    · rw [List.getElem?_append_right (by omega), show gs.length * 6 + 4 - vs.length = 4 by omega]; rfl
    · rw [List.getElem?_append_right (by omega), show gs.length * 6 + 5 - vs.length = 5 by omega]; rfl
theorem Six.at {W w : World} {vs : List Value} {gs : List En} {base : Nat} {ao : Option Addr} {n cap : Nat} (h : Six W vs gs) (hn : gs.length = n) (ho : w.ownsRow base 24 6 (.slice ao n cap) n vs) (hb : ∀ a u, W.cell? a = some u → w.cell? a = some u) : EntsAt w ao gs := by
  intro i hi
  obtain ⟨r, cx, a0, a1, a2, a3, a4, a5, hm, rest⟩ := h.2 i hi
  obtain ⟨g, rfl⟩ : ∃ g, ao = some ⟨g, 0, none⟩ := by
    rcases ho.2 with ⟨e1, h0⟩ | ⟨g, cap', cur, e1, _⟩
    · cases e1; omega
    · cases e1; exact ⟨g, rfl⟩
  have hc : ∀ j u, vs[j]? = some u → w.cell? ⟨g, j, none⟩ = some u := fun j u hj => by
    have := ho.cells (g := g) rfl j u hj
    rwa [Addr.add_lit, Nat.zero_add] at this
  refine ⟨g, 0, r, cx, rfl, ?_, ?_, ?_, ?_, ?_, ?_, fun j hj => ?_, rest⟩
  · rw [Nat.zero_add]; exact hc _ _ a0
  · rw [Nat.zero_add]; exact hc _ _ a1
  · rw [Nat.zero_add]; exact hc _ _ a2
  · rw [Nat.zero_add]; exact hc _ _ a3
  · rw [Nat.zero_add]; exact hc _ _ a4
  · rw [Nat.zero_add]; exact hc _ _ a5
  · obtain ⟨a, ea, hh⟩ := hm j hj; exact ⟨a, ea, hb _ _ hh⟩
theorem goodT_size (t : ByteArray) : (goodT t).size ≤ 16 := by
  unfold goodT
  split
  · rw [ByteArray.size_extract]; omega
  · omega
theorem goodT_le (t : ByteArray) (_h : t.size ≤ maxLen) : (goodT t).size ≤ maxLen := by
  have := goodT_size t
  unfold maxLen; omega
theorem take_getD (ms : List Int) (j k : Nat) (h : j < (ms.take k).length) : (ms.take k).getD j 0 = ms.getD j 0 := by
  simp only [List.getD_eq_getElem?_getD, List.getElem?_take]
  rw [if_pos (by rw [List.length_take] at h; omega)]

theorem msg_end (w y : World) (v0 v1 v2 v3 v4 v5 v6 v7 v8 v9 v10 v11 v12 : Value) {z0 z1 z2 z3 z4 z5 z6 z7 z8 z9 z10 z11 z12 : Value} (hz : y.heap[w.heap.size + 1]? = some (.cells #[z0, z1, z2, z3, z4, z5, z6, z7, z8, z9, z10, z11, z12] 41 (0, 0))) (hb : Below w.heap.size w y) (W : World)
    (hW : W = (((((((((((((y.setCell ⟨w.heap.size + 1, 0, none⟩ (v0)).setCell ⟨w.heap.size + 1, 1, none⟩ (v1)).setCell ⟨w.heap.size + 1, 2, none⟩ (v2)).setCell ⟨w.heap.size + 1, 3, none⟩ (v3)).setCell ⟨w.heap.size + 1, 4, none⟩ (v4)).setCell ⟨w.heap.size + 1, 5, none⟩ (v5)).setCell ⟨w.heap.size + 1, 6, none⟩ (v6)).setCell ⟨w.heap.size + 1, 7, none⟩ (v7)).setCell ⟨w.heap.size + 1, 8, none⟩ (v8)).setCell ⟨w.heap.size + 1, 9, none⟩ (v9)).setCell ⟨w.heap.size + 1, 10, none⟩ (v10)).setCell ⟨w.heap.size + 1, 11, none⟩ (v11)).setCell ⟨w.heap.size + 1, 12, none⟩ (v12))) :
    W.cell? ⟨w.heap.size + 1, 0, none⟩ = some v0 ∧ W.cell? ⟨w.heap.size + 1, 1, none⟩ = some v1 ∧ W.cell? ⟨w.heap.size + 1, 2, none⟩ = some v2 ∧ W.cell? ⟨w.heap.size + 1, 3, none⟩ = some v3 ∧ W.cell? ⟨w.heap.size + 1, 4, none⟩ = some v4 ∧ W.cell? ⟨w.heap.size + 1, 5, none⟩ = some v5 ∧ W.cell? ⟨w.heap.size + 1, 6, none⟩ = some v6 ∧ W.cell? ⟨w.heap.size + 1, 7, none⟩ = some v7 ∧ W.cell? ⟨w.heap.size + 1, 8, none⟩ = some v8 ∧ W.cell? ⟨w.heap.size + 1, 9, none⟩ = some v9 ∧ W.cell? ⟨w.heap.size + 1, 10, none⟩ = some v10 ∧ W.cell? ⟨w.heap.size + 1, 11, none⟩ = some v11 ∧ W.cell? ⟨w.heap.size + 1, 12, none⟩ = some v12 ∧ Below w.heap.size w W ∧ Only w.heap.size [41] y W := by
  have q : Only w.heap.size [41] y W ∧ W.heap[w.heap.size + 1]? = some (.cells #[v0, v1, v2, v3, v4, v5, v6, v7, v8, v9, v10, v11, v12] 41 (0, 0)) := by
    rw [hW]
    have q0 : Only w.heap.size [41] y (y.setCell ⟨w.heap.size + 1, 0, none⟩ v0) ∧ (y.setCell ⟨w.heap.size + 1, 0, none⟩ v0).heap[w.heap.size + 1]? = some (.cells #[v0, z1, z2, z3, z4, z5, z6, z7, z8, z9, z10, z11, z12] 41 (0, 0)) := set_one (show Only w.heap.size [41] y y ∧ _ from ⟨Only.refl _ _ _, hz⟩) (Nat.le_succ _) (by simp) 0 _
    have q1 : Only w.heap.size [41] y ((y.setCell ⟨w.heap.size + 1, 0, none⟩ v0).setCell ⟨w.heap.size + 1, 1, none⟩ v1) ∧ ((y.setCell ⟨w.heap.size + 1, 0, none⟩ v0).setCell ⟨w.heap.size + 1, 1, none⟩ v1).heap[w.heap.size + 1]? = some (.cells #[v0, v1, z2, z3, z4, z5, z6, z7, z8, z9, z10, z11, z12] 41 (0, 0)) := set_one q0 (Nat.le_succ _) (by simp) 1 _
    have q2 : Only w.heap.size [41] y (((y.setCell ⟨w.heap.size + 1, 0, none⟩ v0).setCell ⟨w.heap.size + 1, 1, none⟩ v1).setCell ⟨w.heap.size + 1, 2, none⟩ v2) ∧ (((y.setCell ⟨w.heap.size + 1, 0, none⟩ v0).setCell ⟨w.heap.size + 1, 1, none⟩ v1).setCell ⟨w.heap.size + 1, 2, none⟩ v2).heap[w.heap.size + 1]? = some (.cells #[v0, v1, v2, z3, z4, z5, z6, z7, z8, z9, z10, z11, z12] 41 (0, 0)) := set_one q1 (Nat.le_succ _) (by simp) 2 _
    have q3 : Only w.heap.size [41] y ((((y.setCell ⟨w.heap.size + 1, 0, none⟩ v0).setCell ⟨w.heap.size + 1, 1, none⟩ v1).setCell ⟨w.heap.size + 1, 2, none⟩ v2).setCell ⟨w.heap.size + 1, 3, none⟩ v3) ∧ ((((y.setCell ⟨w.heap.size + 1, 0, none⟩ v0).setCell ⟨w.heap.size + 1, 1, none⟩ v1).setCell ⟨w.heap.size + 1, 2, none⟩ v2).setCell ⟨w.heap.size + 1, 3, none⟩ v3).heap[w.heap.size + 1]? = some (.cells #[v0, v1, v2, v3, z4, z5, z6, z7, z8, z9, z10, z11, z12] 41 (0, 0)) := set_one q2 (Nat.le_succ _) (by simp) 3 _
    have q4 : Only w.heap.size [41] y (((((y.setCell ⟨w.heap.size + 1, 0, none⟩ v0).setCell ⟨w.heap.size + 1, 1, none⟩ v1).setCell ⟨w.heap.size + 1, 2, none⟩ v2).setCell ⟨w.heap.size + 1, 3, none⟩ v3).setCell ⟨w.heap.size + 1, 4, none⟩ v4) ∧ (((((y.setCell ⟨w.heap.size + 1, 0, none⟩ v0).setCell ⟨w.heap.size + 1, 1, none⟩ v1).setCell ⟨w.heap.size + 1, 2, none⟩ v2).setCell ⟨w.heap.size + 1, 3, none⟩ v3).setCell ⟨w.heap.size + 1, 4, none⟩ v4).heap[w.heap.size + 1]? = some (.cells #[v0, v1, v2, v3, v4, z5, z6, z7, z8, z9, z10, z11, z12] 41 (0, 0)) := set_one q3 (Nat.le_succ _) (by simp) 4 _
    have q5 : Only w.heap.size [41] y ((((((y.setCell ⟨w.heap.size + 1, 0, none⟩ v0).setCell ⟨w.heap.size + 1, 1, none⟩ v1).setCell ⟨w.heap.size + 1, 2, none⟩ v2).setCell ⟨w.heap.size + 1, 3, none⟩ v3).setCell ⟨w.heap.size + 1, 4, none⟩ v4).setCell ⟨w.heap.size + 1, 5, none⟩ v5) ∧ ((((((y.setCell ⟨w.heap.size + 1, 0, none⟩ v0).setCell ⟨w.heap.size + 1, 1, none⟩ v1).setCell ⟨w.heap.size + 1, 2, none⟩ v2).setCell ⟨w.heap.size + 1, 3, none⟩ v3).setCell ⟨w.heap.size + 1, 4, none⟩ v4).setCell ⟨w.heap.size + 1, 5, none⟩ v5).heap[w.heap.size + 1]? = some (.cells #[v0, v1, v2, v3, v4, v5, z6, z7, z8, z9, z10, z11, z12] 41 (0, 0)) := set_one q4 (Nat.le_succ _) (by simp) 5 _
    have q6 : Only w.heap.size [41] y (((((((y.setCell ⟨w.heap.size + 1, 0, none⟩ v0).setCell ⟨w.heap.size + 1, 1, none⟩ v1).setCell ⟨w.heap.size + 1, 2, none⟩ v2).setCell ⟨w.heap.size + 1, 3, none⟩ v3).setCell ⟨w.heap.size + 1, 4, none⟩ v4).setCell ⟨w.heap.size + 1, 5, none⟩ v5).setCell ⟨w.heap.size + 1, 6, none⟩ v6) ∧ (((((((y.setCell ⟨w.heap.size + 1, 0, none⟩ v0).setCell ⟨w.heap.size + 1, 1, none⟩ v1).setCell ⟨w.heap.size + 1, 2, none⟩ v2).setCell ⟨w.heap.size + 1, 3, none⟩ v3).setCell ⟨w.heap.size + 1, 4, none⟩ v4).setCell ⟨w.heap.size + 1, 5, none⟩ v5).setCell ⟨w.heap.size + 1, 6, none⟩ v6).heap[w.heap.size + 1]? = some (.cells #[v0, v1, v2, v3, v4, v5, v6, z7, z8, z9, z10, z11, z12] 41 (0, 0)) := set_one q5 (Nat.le_succ _) (by simp) 6 _
    have q7 : Only w.heap.size [41] y ((((((((y.setCell ⟨w.heap.size + 1, 0, none⟩ v0).setCell ⟨w.heap.size + 1, 1, none⟩ v1).setCell ⟨w.heap.size + 1, 2, none⟩ v2).setCell ⟨w.heap.size + 1, 3, none⟩ v3).setCell ⟨w.heap.size + 1, 4, none⟩ v4).setCell ⟨w.heap.size + 1, 5, none⟩ v5).setCell ⟨w.heap.size + 1, 6, none⟩ v6).setCell ⟨w.heap.size + 1, 7, none⟩ v7) ∧ ((((((((y.setCell ⟨w.heap.size + 1, 0, none⟩ v0).setCell ⟨w.heap.size + 1, 1, none⟩ v1).setCell ⟨w.heap.size + 1, 2, none⟩ v2).setCell ⟨w.heap.size + 1, 3, none⟩ v3).setCell ⟨w.heap.size + 1, 4, none⟩ v4).setCell ⟨w.heap.size + 1, 5, none⟩ v5).setCell ⟨w.heap.size + 1, 6, none⟩ v6).setCell ⟨w.heap.size + 1, 7, none⟩ v7).heap[w.heap.size + 1]? = some (.cells #[v0, v1, v2, v3, v4, v5, v6, v7, z8, z9, z10, z11, z12] 41 (0, 0)) := set_one q6 (Nat.le_succ _) (by simp) 7 _
    have q8 : Only w.heap.size [41] y (((((((((y.setCell ⟨w.heap.size + 1, 0, none⟩ v0).setCell ⟨w.heap.size + 1, 1, none⟩ v1).setCell ⟨w.heap.size + 1, 2, none⟩ v2).setCell ⟨w.heap.size + 1, 3, none⟩ v3).setCell ⟨w.heap.size + 1, 4, none⟩ v4).setCell ⟨w.heap.size + 1, 5, none⟩ v5).setCell ⟨w.heap.size + 1, 6, none⟩ v6).setCell ⟨w.heap.size + 1, 7, none⟩ v7).setCell ⟨w.heap.size + 1, 8, none⟩ v8) ∧ (((((((((y.setCell ⟨w.heap.size + 1, 0, none⟩ v0).setCell ⟨w.heap.size + 1, 1, none⟩ v1).setCell ⟨w.heap.size + 1, 2, none⟩ v2).setCell ⟨w.heap.size + 1, 3, none⟩ v3).setCell ⟨w.heap.size + 1, 4, none⟩ v4).setCell ⟨w.heap.size + 1, 5, none⟩ v5).setCell ⟨w.heap.size + 1, 6, none⟩ v6).setCell ⟨w.heap.size + 1, 7, none⟩ v7).setCell ⟨w.heap.size + 1, 8, none⟩ v8).heap[w.heap.size + 1]? = some (.cells #[v0, v1, v2, v3, v4, v5, v6, v7, v8, z9, z10, z11, z12] 41 (0, 0)) := set_one q7 (Nat.le_succ _) (by simp) 8 _
    have q9 : Only w.heap.size [41] y ((((((((((y.setCell ⟨w.heap.size + 1, 0, none⟩ v0).setCell ⟨w.heap.size + 1, 1, none⟩ v1).setCell ⟨w.heap.size + 1, 2, none⟩ v2).setCell ⟨w.heap.size + 1, 3, none⟩ v3).setCell ⟨w.heap.size + 1, 4, none⟩ v4).setCell ⟨w.heap.size + 1, 5, none⟩ v5).setCell ⟨w.heap.size + 1, 6, none⟩ v6).setCell ⟨w.heap.size + 1, 7, none⟩ v7).setCell ⟨w.heap.size + 1, 8, none⟩ v8).setCell ⟨w.heap.size + 1, 9, none⟩ v9) ∧ ((((((((((y.setCell ⟨w.heap.size + 1, 0, none⟩ v0).setCell ⟨w.heap.size + 1, 1, none⟩ v1).setCell ⟨w.heap.size + 1, 2, none⟩ v2).setCell ⟨w.heap.size + 1, 3, none⟩ v3).setCell ⟨w.heap.size + 1, 4, none⟩ v4).setCell ⟨w.heap.size + 1, 5, none⟩ v5).setCell ⟨w.heap.size + 1, 6, none⟩ v6).setCell ⟨w.heap.size + 1, 7, none⟩ v7).setCell ⟨w.heap.size + 1, 8, none⟩ v8).setCell ⟨w.heap.size + 1, 9, none⟩ v9).heap[w.heap.size + 1]? = some (.cells #[v0, v1, v2, v3, v4, v5, v6, v7, v8, v9, z10, z11, z12] 41 (0, 0)) := set_one q8 (Nat.le_succ _) (by simp) 9 _
    have q10 : Only w.heap.size [41] y (((((((((((y.setCell ⟨w.heap.size + 1, 0, none⟩ v0).setCell ⟨w.heap.size + 1, 1, none⟩ v1).setCell ⟨w.heap.size + 1, 2, none⟩ v2).setCell ⟨w.heap.size + 1, 3, none⟩ v3).setCell ⟨w.heap.size + 1, 4, none⟩ v4).setCell ⟨w.heap.size + 1, 5, none⟩ v5).setCell ⟨w.heap.size + 1, 6, none⟩ v6).setCell ⟨w.heap.size + 1, 7, none⟩ v7).setCell ⟨w.heap.size + 1, 8, none⟩ v8).setCell ⟨w.heap.size + 1, 9, none⟩ v9).setCell ⟨w.heap.size + 1, 10, none⟩ v10) ∧ (((((((((((y.setCell ⟨w.heap.size + 1, 0, none⟩ v0).setCell ⟨w.heap.size + 1, 1, none⟩ v1).setCell ⟨w.heap.size + 1, 2, none⟩ v2).setCell ⟨w.heap.size + 1, 3, none⟩ v3).setCell ⟨w.heap.size + 1, 4, none⟩ v4).setCell ⟨w.heap.size + 1, 5, none⟩ v5).setCell ⟨w.heap.size + 1, 6, none⟩ v6).setCell ⟨w.heap.size + 1, 7, none⟩ v7).setCell ⟨w.heap.size + 1, 8, none⟩ v8).setCell ⟨w.heap.size + 1, 9, none⟩ v9).setCell ⟨w.heap.size + 1, 10, none⟩ v10).heap[w.heap.size + 1]? = some (.cells #[v0, v1, v2, v3, v4, v5, v6, v7, v8, v9, v10, z11, z12] 41 (0, 0)) := set_one q9 (Nat.le_succ _) (by simp) 10 _
    have q11 : Only w.heap.size [41] y ((((((((((((y.setCell ⟨w.heap.size + 1, 0, none⟩ v0).setCell ⟨w.heap.size + 1, 1, none⟩ v1).setCell ⟨w.heap.size + 1, 2, none⟩ v2).setCell ⟨w.heap.size + 1, 3, none⟩ v3).setCell ⟨w.heap.size + 1, 4, none⟩ v4).setCell ⟨w.heap.size + 1, 5, none⟩ v5).setCell ⟨w.heap.size + 1, 6, none⟩ v6).setCell ⟨w.heap.size + 1, 7, none⟩ v7).setCell ⟨w.heap.size + 1, 8, none⟩ v8).setCell ⟨w.heap.size + 1, 9, none⟩ v9).setCell ⟨w.heap.size + 1, 10, none⟩ v10).setCell ⟨w.heap.size + 1, 11, none⟩ v11) ∧ ((((((((((((y.setCell ⟨w.heap.size + 1, 0, none⟩ v0).setCell ⟨w.heap.size + 1, 1, none⟩ v1).setCell ⟨w.heap.size + 1, 2, none⟩ v2).setCell ⟨w.heap.size + 1, 3, none⟩ v3).setCell ⟨w.heap.size + 1, 4, none⟩ v4).setCell ⟨w.heap.size + 1, 5, none⟩ v5).setCell ⟨w.heap.size + 1, 6, none⟩ v6).setCell ⟨w.heap.size + 1, 7, none⟩ v7).setCell ⟨w.heap.size + 1, 8, none⟩ v8).setCell ⟨w.heap.size + 1, 9, none⟩ v9).setCell ⟨w.heap.size + 1, 10, none⟩ v10).setCell ⟨w.heap.size + 1, 11, none⟩ v11).heap[w.heap.size + 1]? = some (.cells #[v0, v1, v2, v3, v4, v5, v6, v7, v8, v9, v10, v11, z12] 41 (0, 0)) := set_one q10 (Nat.le_succ _) (by simp) 11 _
    have q12 : Only w.heap.size [41] y (((((((((((((y.setCell ⟨w.heap.size + 1, 0, none⟩ v0).setCell ⟨w.heap.size + 1, 1, none⟩ v1).setCell ⟨w.heap.size + 1, 2, none⟩ v2).setCell ⟨w.heap.size + 1, 3, none⟩ v3).setCell ⟨w.heap.size + 1, 4, none⟩ v4).setCell ⟨w.heap.size + 1, 5, none⟩ v5).setCell ⟨w.heap.size + 1, 6, none⟩ v6).setCell ⟨w.heap.size + 1, 7, none⟩ v7).setCell ⟨w.heap.size + 1, 8, none⟩ v8).setCell ⟨w.heap.size + 1, 9, none⟩ v9).setCell ⟨w.heap.size + 1, 10, none⟩ v10).setCell ⟨w.heap.size + 1, 11, none⟩ v11).setCell ⟨w.heap.size + 1, 12, none⟩ v12) ∧ (((((((((((((y.setCell ⟨w.heap.size + 1, 0, none⟩ v0).setCell ⟨w.heap.size + 1, 1, none⟩ v1).setCell ⟨w.heap.size + 1, 2, none⟩ v2).setCell ⟨w.heap.size + 1, 3, none⟩ v3).setCell ⟨w.heap.size + 1, 4, none⟩ v4).setCell ⟨w.heap.size + 1, 5, none⟩ v5).setCell ⟨w.heap.size + 1, 6, none⟩ v6).setCell ⟨w.heap.size + 1, 7, none⟩ v7).setCell ⟨w.heap.size + 1, 8, none⟩ v8).setCell ⟨w.heap.size + 1, 9, none⟩ v9).setCell ⟨w.heap.size + 1, 10, none⟩ v10).setCell ⟨w.heap.size + 1, 11, none⟩ v11).setCell ⟨w.heap.size + 1, 12, none⟩ v12).heap[w.heap.size + 1]? = some (.cells #[v0, v1, v2, v3, v4, v5, v6, v7, v8, v9, v10, v11, v12] 41 (0, 0)) := set_one q11 (Nat.le_succ _) (by simp) 12 _
    exact q12
  exact ⟨(cell_of_block q.2).trans rfl, (cell_of_block q.2).trans rfl, (cell_of_block q.2).trans rfl, (cell_of_block q.2).trans rfl, (cell_of_block q.2).trans rfl, (cell_of_block q.2).trans rfl, (cell_of_block q.2).trans rfl, (cell_of_block q.2).trans rfl, (cell_of_block q.2).trans rfl, (cell_of_block q.2).trans rfl, (cell_of_block q.2).trans rfl, (cell_of_block q.2).trans rfl, (cell_of_block q.2).trans rfl, hb.trans q.1.below, q.1⟩

end Go.Proofs.YthjpdglbliigcaaDoor

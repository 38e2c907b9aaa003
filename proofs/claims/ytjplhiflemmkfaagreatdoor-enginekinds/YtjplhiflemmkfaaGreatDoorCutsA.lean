/- synodallaw2.few, synodallaw2.Good: contracts. synodallaw2.fewMsg: a contract. synodallaw2.GoodMsg: a contract. What the listed variables give a walk, and a start that holds them. -/
import Derived.Test.YtjplhiflemmkfaaGreatDoorReaderS
import Derived.Test.YtjplhiflemmkfaaGreatDoorReadPure
import Derived.Deep.DeepCutAuto
import Derived.Test.YtjplhiflemmkfaaGreatDoorRows
import Derived.Test.YtjplhiflemmkfaaGreatDoorFrameAt
import Derived.ChangeVars
import Derived.JoinedOf
import Derived.LaidLaws
import Derived.LaidHandle
import Derived.Lib.LaidTab
namespace Go.Proofs.YtjplhiflemmkfaaGreatDoor
open Go.RowKit

/-- some Boolean is answered. -/
def SomeBool (e : Ending) : Prop := ∃ b, e = .returned (.bool b)
/-- the text that Good leaves. -/
def goodT (t : ByteArray) : ByteArray := if 16 < t.size then t.extract 0 16 else t

theorem good_end (w y : World) (v0 v1 v2 v3 v4 v5 : Value) {z0 z1 z2 z3 z4 z5 : Value} (hz : y.heap[w.heap.size + 1]? = some (.cells #[z0, z1, z2, z3, z4, z5] 43 (0, 0))) (hb : Below w.heap.size w y) (W : World)
    (hW : W = ((((((y.setCell ⟨w.heap.size + 1, 0, none⟩ v0).setCell ⟨w.heap.size + 1, 1, none⟩ v1).setCell ⟨w.heap.size + 1, 2, none⟩ v2).setCell ⟨w.heap.size + 1, 3, none⟩ v3).setCell ⟨w.heap.size + 1, 4, none⟩ v4).setCell ⟨w.heap.size + 1, 5, none⟩ v5)) :
    W.cell? ⟨w.heap.size + 1, 0, none⟩ = some v0 ∧ W.cell? ⟨w.heap.size + 1, 1, none⟩ = some v1 ∧ W.cell? ⟨w.heap.size + 1, 2, none⟩ = some v2 ∧ W.cell? ⟨w.heap.size + 1, 3, none⟩ = some v3 ∧ W.cell? ⟨w.heap.size + 1, 4, none⟩ = some v4 ∧ W.cell? ⟨w.heap.size + 1, 5, none⟩ = some v5 ∧ Below w.heap.size w W := by
  have q : Only w.heap.size [43] y W ∧ W.heap[w.heap.size + 1]? = some (.cells #[v0, v1, v2, v3, v4, v5] 43 (0, 0)) := by
    rw [hW]
    exact set_one (set_one (set_one (set_one (set_one (set_one ⟨Only.refl _ _ _, hz⟩ (Nat.le_succ _) (by simp) 0 _) (Nat.le_succ _) (by simp) 1 _) (Nat.le_succ _) (by simp) 2 _) (Nat.le_succ _) (by simp) 3 _) (Nat.le_succ _) (by simp) 4 _) (Nat.le_succ _) (by simp) 5 _
  exact ⟨(cell_of_block q.2).trans rfl, (cell_of_block q.2).trans rfl, (cell_of_block q.2).trans rfl, (cell_of_block q.2).trans rfl, (cell_of_block q.2).trans rfl, (cell_of_block q.2).trans rfl, hb.trans q.1.below⟩

end Go.Proofs.YtjplhiflemmkfaaGreatDoor
namespace Go.Proofs.YtjplhiflemmkfaaGreatDoor
open Go.RowKit

/-- the entries of a slice, as they lie in memory. -/
def EntsAt (w : World) (ao : Option Addr) (es : List En) : Prop :=
  ∀ i, i < es.length → ∃ blk off r cx, ao = some ⟨blk, off, none⟩ ∧ w.cell? ⟨blk, off + i * 6, none⟩ = some (.int .i64 (es.getD i default).kind) ∧ w.cell? ⟨blk, off + i * 6 + 1, none⟩ = some (.int .i64 (es.getD i default).client) ∧ w.cell? ⟨blk, off + i * 6 + 2, none⟩ = some (.int .i64 (es.getD i default).seq) ∧
    w.cell? ⟨blk, off + i * 6 + 3, none⟩ = some (.string (es.getD i default).text) ∧ w.cell? ⟨blk, off + i * 6 + 4, none⟩ = some (.slice r (es.getD i default).ms.length cx) ∧ w.cell? ⟨blk, off + i * 6 + 5, none⟩ = some (.int .i64 (es.getD i default).to) ∧
    (∀ j, j < (es.getD i default).ms.length → ∃ a, r = some a ∧ w.cell? (a.add j) = some (.int .i64 ((es.getD i default).ms.getD j 0))) ∧ (es.getD i default).text.size ≤ maxLen ∧ (es.getD i default).ms.length ≤ cx ∧ cx ≤ maxLen ∧ (r = none → cx = 0)
theorem EntsAt.below {w w' : World} {ao : Option Addr} {es : List En} (h : EntsAt w ao es) (hb : Below w.heap.size w w') : EntsAt w' ao es := fun i hi => by
  obtain ⟨blk, off, r, cx, e, h0, h1, h2, h3, h4, h5, hm, ht⟩ := h i hi
  have hc : ∀ a u, w.cell? a = some u → w'.cell? a = some u := fun a u h => by rw [hb.cell (blk_lt h)]; exact h
  exact ⟨blk, off, r, cx, e, hc _ _ h0, hc _ _ h1, hc _ _ h2, hc _ _ h3, hc _ _ h4, hc _ _ h5, fun j hj => by obtain ⟨a, ea, hh⟩ := hm j hj; exact ⟨a, ea, hc _ _ hh⟩, ht⟩

/-- the cells of a message. -/
def mcells (x0 x1 x2 x3 x4 x5 x6 x7 : Int) (y : Bool) (v1 v2 v3 v4 : Value) : Array Value := #[.int .i64 x0, .int .i64 x1, .int .i64 x2, .int .i64 x3, .int .i64 x4, .int .i64 x5, .int .i64 x6, .int .i64 x7, .bool y, v1, v2, v3, v4]

end Go.Proofs.YtjplhiflemmkfaaGreatDoor
namespace Go.Proofs.YtjplhiflemmkfaaGreatDoor
open Go.RowKit

/-- an entry such as Good makes it. -/
def goodE (e : En) : En := ⟨e.kind % 5, e.client, e.seq, goodT e.text, e.ms.take 9, e.to % 3⟩
/-- six cells an entry; their lists lie in W. -/
def Six (W : World) (vs : List Value) (gs : List En) : Prop :=
  vs.length = gs.length * 6 ∧ ∀ i, i < gs.length → ∃ r cx, vs[i * 6]? = some (.int .i64 (gs.getD i default).kind) ∧ vs[i * 6 + 1]? = some (.int .i64 (gs.getD i default).client) ∧ vs[i * 6 + 2]? = some (.int .i64 (gs.getD i default).seq) ∧
    vs[i * 6 + 3]? = some (.string (gs.getD i default).text) ∧ vs[i * 6 + 4]? = some (.slice r (gs.getD i default).ms.length cx) ∧ vs[i * 6 + 5]? = some (.int .i64 (gs.getD i default).to) ∧
    (∀ j, j < (gs.getD i default).ms.length → ∃ a, r = some a ∧ W.cell? (a.add j) = some (.int .i64 ((gs.getD i default).ms.getD j 0))) ∧ (gs.getD i default).text.size ≤ maxLen ∧ (gs.getD i default).ms.length ≤ cx ∧ cx ≤ maxLen ∧ (r = none → cx = 0)
theorem Six.nil (W : World) : Six W [] [] := ⟨rfl, fun i hi => by simp at hi⟩
theorem Six.snoc {W : World} {vs : List Value} {gs : List En} (h : Six W vs gs) (e : En) (r : Option Addr) (cx : Nat) (hm : ∀ j, j < e.ms.length → ∃ a, r = some a ∧ W.cell? (a.add j) = some (.int .i64 (e.ms.getD j 0))) (ht : e.text.size ≤ maxLen) (h1 : e.ms.length ≤ cx) (h2 : cx ≤ maxLen) (h3 : r = none → cx = 0) :
    Six W (vs ++ [.int .i64 e.kind, .int .i64 e.client, .int .i64 e.seq, .string e.text, .slice r e.ms.length cx, .int .i64 e.to]) (gs ++ [e]) := by
  refine ⟨by simp [h.1]; omega, fun i hi => ?_⟩
  rw [List.length_append, List.length_singleton] at hi
  by_cases hlt : i < gs.length
  · have eg : (gs ++ [e]).getD i default = gs.getD i default := by simp only [List.getD_eq_getElem?_getD]; rw [List.getElem?_append_left hlt]
    rw [eg]
    have hv := h.1
    obtain ⟨r', cx', a0, a1, a2, a3, a4, a5, rest⟩ := h.2 i hlt
    refine ⟨r', cx', ?_, ?_, ?_, ?_, ?_, ?_, rest⟩ <;> rw [List.getElem?_append_left (by omega)] <;> assumption
  · have hie : i = gs.length := by omega
    subst hie
    have eg : (gs ++ [e]).getD gs.length default = e := by simp [List.getD_eq_getElem?_getD]
    rw [eg]
    have hv := h.1
    refine ⟨r, cx, ?_, ?_, ?_, ?_, ?_, ?_, hm, ht, h1, h2, h3⟩
    · rw [List.getElem?_append_right (by omega), show gs.length * 6 - vs.length = 0 by omega]; rfl
    · rw [List.getElem?_append_right (by omega), show gs.length * 6 + 1 - vs.length = 1 by omega]; rfl
    · rw [List.getElem?_append_right (by omega), show gs.length * 6 + 2 - vs.length = 2 by omega]; rfl
    · rw [List.getElem?_append_right (by omega), show gs.length * 6 + 3 - vs.length = 3 by omega]; rfl
    · rw [List.getElem?_append_right (by omega), show gs.length * 6 + 4 - vs.length = 4 by omega]; rfl
    · rw [List.getElem?_append_right (by omega), show gs.length * 6 + 5 - vs.length = 5 by omega]; rfl
theorem Six.at {W w : World} {vs : List Value} {gs : List En} {base : Nat} {ao : Option Addr} {n cap : Nat} (h : Six W vs gs) (hn : gs.length = n) (ho : w.ownsRow base 43 6 (.slice ao n cap) n vs) (hb : ∀ a u, W.cell? a = some u → w.cell? a = some u) : EntsAt w ao gs := by
  intro i hi
  obtain ⟨r, cx, a0, a1, a2, a3, a4, a5, hm, rest⟩ := h.2 i hi
  obtain ⟨g, rfl⟩ : ∃ g, ao = some ⟨g, 0, none⟩ := by
    rcases ho.2 with ⟨e1, h0⟩ | ⟨g, cap', cur, e1, _⟩
    · cases e1; omega
    · cases e1; exact ⟨g, rfl⟩
  have hc : ∀ j u, vs[j]? = some u → w.cell? ⟨g, j, none⟩ = some u := fun j u hj => by
    have := ho.cells (g := g) rfl j u hj
    rwa [Addr.add_lit, Nat.zero_add] at this
  refine ⟨g, 0, r, cx, rfl, ?_, ?_, ?_, ?_, ?_, ?_, fun j hj => ?_, rest⟩
  · rw [Nat.zero_add]; exact hc _ _ a0
  · rw [Nat.zero_add]; exact hc _ _ a1
  · rw [Nat.zero_add]; exact hc _ _ a2
  · rw [Nat.zero_add]; exact hc _ _ a3
  · rw [Nat.zero_add]; exact hc _ _ a4
  · rw [Nat.zero_add]; exact hc _ _ a5
  · obtain ⟨a, ea, hh⟩ := hm j hj; exact ⟨a, ea, hb _ _ hh⟩
theorem goodT_size (t : ByteArray) : (goodT t).size ≤ 16 := by
  unfold goodT
  split
  · rw [ByteArray.size_extract]; omega
  · omega
theorem goodT_le (t : ByteArray) (_h : t.size ≤ maxLen) : (goodT t).size ≤ maxLen := by
  have := goodT_size t
  unfold maxLen; omega
theorem take_getD (ms : List Int) (j k : Nat) (h : j < (ms.take k).length) : (ms.take k).getD j 0 = ms.getD j 0 := by
  simp only [List.getD_eq_getElem?_getD, List.getElem?_take]
  rw [if_pos (by rw [List.length_take] at h; omega)]

theorem msg_end (w y : World) (v0 v1 v2 v3 v4 v5 v6 v7 v8 v9 v10 v11 v12 : Value) {z0 z1 z2 z3 z4 z5 z6 z7 z8 z9 z10 z11 z12 : Value} (hz : y.heap[w.heap.size + 1]? = some (.cells #[z0, z1, z2, z3, z4, z5, z6, z7, z8, z9, z10, z11, z12] 50 (0, 0))) (hb : Below w.heap.size w y) (W : World)
    (hW : W = (((((((((((((y.setCell ⟨w.heap.size + 1, 0, none⟩ (v0)).setCell ⟨w.heap.size + 1, 1, none⟩ (v1)).setCell ⟨w.heap.size + 1, 2, none⟩ (v2)).setCell ⟨w.heap.size + 1, 3, none⟩ (v3)).setCell ⟨w.heap.size + 1, 4, none⟩ (v4)).setCell ⟨w.heap.size + 1, 5, none⟩ (v5)).setCell ⟨w.heap.size + 1, 6, none⟩ (v6)).setCell ⟨w.heap.size + 1, 7, none⟩ (v7)).setCell ⟨w.heap.size + 1, 8, none⟩ (v8)).setCell ⟨w.heap.size + 1, 9, none⟩ (v9)).setCell ⟨w.heap.size + 1, 10, none⟩ (v10)).setCell ⟨w.heap.size + 1, 11, none⟩ (v11)).setCell ⟨w.heap.size + 1, 12, none⟩ (v12))) :
    W.cell? ⟨w.heap.size + 1, 0, none⟩ = some v0 ∧ W.cell? ⟨w.heap.size + 1, 1, none⟩ = some v1 ∧ W.cell? ⟨w.heap.size + 1, 2, none⟩ = some v2 ∧ W.cell? ⟨w.heap.size + 1, 3, none⟩ = some v3 ∧ W.cell? ⟨w.heap.size + 1, 4, none⟩ = some v4 ∧ W.cell? ⟨w.heap.size + 1, 5, none⟩ = some v5 ∧ W.cell? ⟨w.heap.size + 1, 6, none⟩ = some v6 ∧ W.cell? ⟨w.heap.size + 1, 7, none⟩ = some v7 ∧ W.cell? ⟨w.heap.size + 1, 8, none⟩ = some v8 ∧ W.cell? ⟨w.heap.size + 1, 9, none⟩ = some v9 ∧ W.cell? ⟨w.heap.size + 1, 10, none⟩ = some v10 ∧ W.cell? ⟨w.heap.size + 1, 11, none⟩ = some v11 ∧ W.cell? ⟨w.heap.size + 1, 12, none⟩ = some v12 ∧ Below w.heap.size w W ∧ Only w.heap.size [50] y W := by
  have q : Only w.heap.size [50] y W ∧ W.heap[w.heap.size + 1]? = some (.cells #[v0, v1, v2, v3, v4, v5, v6, v7, v8, v9, v10, v11, v12] 50 (0, 0)) := by
    rw [hW]
    have q0 : Only w.heap.size [50] y (y.setCell ⟨w.heap.size + 1, 0, none⟩ v0) ∧ (y.setCell ⟨w.heap.size + 1, 0, none⟩ v0).heap[w.heap.size + 1]? = some (.cells #[v0, z1, z2, z3, z4, z5, z6, z7, z8, z9, z10, z11, z12] 50 (0, 0)) := set_one (show Only w.heap.size [50] y y ∧ _ from ⟨Only.refl _ _ _, hz⟩) (Nat.le_succ _) (by simp) 0 _
    have q1 : Only w.heap.size [50] y ((y.setCell ⟨w.heap.size + 1, 0, none⟩ v0).setCell ⟨w.heap.size + 1, 1, none⟩ v1) ∧ ((y.setCell ⟨w.heap.size + 1, 0, none⟩ v0).setCell ⟨w.heap.size + 1, 1, none⟩ v1).heap[w.heap.size + 1]? = some (.cells #[v0, v1, z2, z3, z4, z5, z6, z7, z8, z9, z10, z11, z12] 50 (0, 0)) := set_one q0 (Nat.le_succ _) (by simp) 1 _
    have q2 : Only w.heap.size [50] y (((y.setCell ⟨w.heap.size + 1, 0, none⟩ v0).setCell ⟨w.heap.size + 1, 1, none⟩ v1).setCell ⟨w.heap.size + 1, 2, none⟩ v2) ∧ (((y.setCell ⟨w.heap.size + 1, 0, none⟩ v0).setCell ⟨w.heap.size + 1, 1, none⟩ v1).setCell ⟨w.heap.size + 1, 2, none⟩ v2).heap[w.heap.size + 1]? = some (.cells #[v0, v1, v2, z3, z4, z5, z6, z7, z8, z9, z10, z11, z12] 50 (0, 0)) := set_one q1 (Nat.le_succ _) (by simp) 2 _
    have q3 : Only w.heap.size [50] y ((((y.setCell ⟨w.heap.size + 1, 0, none⟩ v0).setCell ⟨w.heap.size + 1, 1, none⟩ v1).setCell ⟨w.heap.size + 1, 2, none⟩ v2).setCell ⟨w.heap.size + 1, 3, none⟩ v3) ∧ ((((y.setCell ⟨w.heap.size + 1, 0, none⟩ v0).setCell ⟨w.heap.size + 1, 1, none⟩ v1).setCell ⟨w.heap.size + 1, 2, none⟩ v2).setCell ⟨w.heap.size + 1, 3, none⟩ v3).heap[w.heap.size + 1]? = some (.cells #[v0, v1, v2, v3, z4, z5, z6, z7, z8, z9, z10, z11, z12] 50 (0, 0)) := set_one q2 (Nat.le_succ _) (by simp) 3 _
    have q4 : Only w.heap.size [50] y (((((y.setCell ⟨w.heap.size + 1, 0, none⟩ v0).setCell ⟨w.heap.size + 1, 1, none⟩ v1).setCell ⟨w.heap.size + 1, 2, none⟩ v2).setCell ⟨w.heap.size + 1, 3, none⟩ v3).setCell ⟨w.heap.size + 1, 4, none⟩ v4) ∧ (((((y.setCell ⟨w.heap.size + 1, 0, none⟩ v0).setCell ⟨w.heap.size + 1, 1, none⟩ v1).setCell ⟨w.heap.size + 1, 2, none⟩ v2).setCell ⟨w.heap.size + 1, 3, none⟩ v3).setCell ⟨w.heap.size + 1, 4, none⟩ v4).heap[w.heap.size + 1]? = some (.cells #[v0, v1, v2, v3, v4, z5, z6, z7, z8, z9, z10, z11, z12] 50 (0, 0)) := set_one q3 (Nat.le_succ _) (by simp) 4 _
    have q5 : Only w.heap.size [50] y ((((((y.setCell ⟨w.heap.size + 1, 0, none⟩ v0).setCell ⟨w.heap.size + 1, 1, none⟩ v1).setCell ⟨w.heap.size + 1, 2, none⟩ v2).setCell ⟨w.heap.size + 1, 3, none⟩ v3).setCell ⟨w.heap.size + 1, 4, none⟩ v4).setCell ⟨w.heap.size + 1, 5, none⟩ v5) ∧ ((((((y.setCell ⟨w.heap.size + 1, 0, none⟩ v0).setCell ⟨w.heap.size + 1, 1, none⟩ v1).setCell ⟨w.heap.size + 1, 2, none⟩ v2).setCell ⟨w.heap.size + 1, 3, none⟩ v3).setCell ⟨w.heap.size + 1, 4, none⟩ v4).setCell ⟨w.heap.size + 1, 5, none⟩ v5).heap[w.heap.size + 1]? = some (.cells #[v0, v1, v2, v3, v4, v5, z6, z7, z8, z9, z10, z11, z12] 50 (0, 0)) := set_one q4 (Nat.le_succ _) (by simp) 5 _
    have q6 : Only w.heap.size [50] y (((((((y.setCell ⟨w.heap.size + 1, 0, none⟩ v0).setCell ⟨w.heap.size + 1, 1, none⟩ v1).setCell ⟨w.heap.size + 1, 2, none⟩ v2).setCell ⟨w.heap.size + 1, 3, none⟩ v3).setCell ⟨w.heap.size + 1, 4, none⟩ v4).setCell ⟨w.heap.size + 1, 5, none⟩ v5).setCell ⟨w.heap.size + 1, 6, none⟩ v6) ∧ (((((((y.setCell ⟨w.heap.size + 1, 0, none⟩ v0).setCell ⟨w.heap.size + 1, 1, none⟩ v1).setCell ⟨w.heap.size + 1, 2, none⟩ v2).setCell ⟨w.heap.size + 1, 3, none⟩ v3).setCell ⟨w.heap.size + 1, 4, none⟩ v4).setCell ⟨w.heap.size + 1, 5, none⟩ v5).setCell ⟨w.heap.size + 1, 6, none⟩ v6).heap[w.heap.size + 1]? = some (.cells #[v0, v1, v2, v3, v4, v5, v6, z7, z8, z9, z10, z11, z12] 50 (0, 0)) := set_one q5 (Nat.le_succ _) (by simp) 6 _
    have q7 : Only w.heap.size [50] y ((((((((y.setCell ⟨w.heap.size + 1, 0, none⟩ v0).setCell ⟨w.heap.size + 1, 1, none⟩ v1).setCell ⟨w.heap.size + 1, 2, none⟩ v2).setCell ⟨w.heap.size + 1, 3, none⟩ v3).setCell ⟨w.heap.size + 1, 4, none⟩ v4).setCell ⟨w.heap.size + 1, 5, none⟩ v5).setCell ⟨w.heap.size + 1, 6, none⟩ v6).setCell ⟨w.heap.size + 1, 7, none⟩ v7) ∧ ((((((((y.setCell ⟨w.heap.size + 1, 0, none⟩ v0).setCell ⟨w.heap.size + 1, 1, none⟩ v1).setCell ⟨w.heap.size + 1, 2, none⟩ v2).setCell ⟨w.heap.size + 1, 3, none⟩ v3).setCell ⟨w.heap.size + 1, 4, none⟩ v4).setCell ⟨w.heap.size + 1, 5, none⟩ v5).setCell ⟨w.heap.size + 1, 6, none⟩ v6).setCell ⟨w.heap.size + 1, 7, none⟩ v7).heap[w.heap.size + 1]? = some (.cells #[v0, v1, v2, v3, v4, v5, v6, v7, z8, z9, z10, z11, z12] 50 (0, 0)) := set_one q6 (Nat.le_succ _) (by simp) 7 _
    have q8 : Only w.heap.size [50] y (((((((((y.setCell ⟨w.heap.size + 1, 0, none⟩ v0).setCell ⟨w.heap.size + 1, 1, none⟩ v1).setCell ⟨w.heap.size + 1, 2, none⟩ v2).setCell ⟨w.heap.size + 1, 3, none⟩ v3).setCell ⟨w.heap.size + 1, 4, none⟩ v4).setCell ⟨w.heap.size + 1, 5, none⟩ v5).setCell ⟨w.heap.size + 1, 6, none⟩ v6).setCell ⟨w.heap.size + 1, 7, none⟩ v7).setCell ⟨w.heap.size + 1, 8, none⟩ v8) ∧ (((((((((y.setCell ⟨w.heap.size + 1, 0, none⟩ v0).setCell ⟨w.heap.size + 1, 1, none⟩ v1).setCell ⟨w.heap.size + 1, 2, none⟩ v2).setCell ⟨w.heap.size + 1, 3, none⟩ v3).setCell ⟨w.heap.size + 1, 4, none⟩ v4).setCell ⟨w.heap.size + 1, 5, none⟩ v5).setCell ⟨w.heap.size + 1, 6, none⟩ v6).setCell ⟨w.heap.size + 1, 7, none⟩ v7).setCell ⟨w.heap.size + 1, 8, none⟩ v8).heap[w.heap.size + 1]? = some (.cells #[v0, v1, v2, v3, v4, v5, v6, v7, v8, z9, z10, z11, z12] 50 (0, 0)) := set_one q7 (Nat.le_succ _) (by simp) 8 _
    have q9 : Only w.heap.size [50] y ((((((((((y.setCell ⟨w.heap.size + 1, 0, none⟩ v0).setCell ⟨w.heap.size + 1, 1, none⟩ v1).setCell ⟨w.heap.size + 1, 2, none⟩ v2).setCell ⟨w.heap.size + 1, 3, none⟩ v3).setCell ⟨w.heap.size + 1, 4, none⟩ v4).setCell ⟨w.heap.size + 1, 5, none⟩ v5).setCell ⟨w.heap.size + 1, 6, none⟩ v6).setCell ⟨w.heap.size + 1, 7, none⟩ v7).setCell ⟨w.heap.size + 1, 8, none⟩ v8).setCell ⟨w.heap.size + 1, 9, none⟩ v9) ∧ ((((((((((y.setCell ⟨w.heap.size + 1, 0, none⟩ v0).setCell ⟨w.heap.size + 1, 1, none⟩ v1).setCell ⟨w.heap.size + 1, 2, none⟩ v2).setCell ⟨w.heap.size + 1, 3, none⟩ v3).setCell ⟨w.heap.size + 1, 4, none⟩ v4).setCell ⟨w.heap.size + 1, 5, none⟩ v5).setCell ⟨w.heap.size + 1, 6, none⟩ v6).setCell ⟨w.heap.size + 1, 7, none⟩ v7).setCell ⟨w.heap.size + 1, 8, none⟩ v8).setCell ⟨w.heap.size + 1, 9, none⟩ v9).heap[w.heap.size + 1]? = some (.cells #[v0, v1, v2, v3, v4, v5, v6, v7, v8, v9, z10, z11, z12] 50 (0, 0)) := set_one q8 (Nat.le_succ _) (by simp) 9 _
    have q10 : Only w.heap.size [50] y (((((((((((y.setCell ⟨w.heap.size + 1, 0, none⟩ v0).setCell ⟨w.heap.size + 1, 1, none⟩ v1).setCell ⟨w.heap.size + 1, 2, none⟩ v2).setCell ⟨w.heap.size + 1, 3, none⟩ v3).setCell ⟨w.heap.size + 1, 4, none⟩ v4).setCell ⟨w.heap.size + 1, 5, none⟩ v5).setCell ⟨w.heap.size + 1, 6, none⟩ v6).setCell ⟨w.heap.size + 1, 7, none⟩ v7).setCell ⟨w.heap.size + 1, 8, none⟩ v8).setCell ⟨w.heap.size + 1, 9, none⟩ v9).setCell ⟨w.heap.size + 1, 10, none⟩ v10) ∧ (((((((((((y.setCell ⟨w.heap.size + 1, 0, none⟩ v0).setCell ⟨w.heap.size + 1, 1, none⟩ v1).setCell ⟨w.heap.size + 1, 2, none⟩ v2).setCell ⟨w.heap.size + 1, 3, none⟩ v3).setCell ⟨w.heap.size + 1, 4, none⟩ v4).setCell ⟨w.heap.size + 1, 5, none⟩ v5).setCell ⟨w.heap.size + 1, 6, none⟩ v6).setCell ⟨w.heap.size + 1, 7, none⟩ v7).setCell ⟨w.heap.size + 1, 8, none⟩ v8).setCell ⟨w.heap.size + 1, 9, none⟩ v9).setCell ⟨w.heap.size + 1, 10, none⟩ v10).heap[w.heap.size + 1]? = some (.cells #[v0, v1, v2, v3, v4, v5, v6, v7, v8, v9, v10, z11, z12] 50 (0, 0)) := set_one q9 (Nat.le_succ _) (by simp) 10 _
    have q11 : Only w.heap.size [50] y ((((((((((((y.setCell ⟨w.heap.size + 1, 0, none⟩ v0).setCell ⟨w.heap.size + 1, 1, none⟩ v1).setCell ⟨w.heap.size + 1, 2, none⟩ v2).setCell ⟨w.heap.size + 1, 3, none⟩ v3).setCell ⟨w.heap.size + 1, 4, none⟩ v4).setCell ⟨w.heap.size + 1, 5, none⟩ v5).setCell ⟨w.heap.size + 1, 6, none⟩ v6).setCell ⟨w.heap.size + 1, 7, none⟩ v7).setCell ⟨w.heap.size + 1, 8, none⟩ v8).setCell ⟨w.heap.size + 1, 9, none⟩ v9).setCell ⟨w.heap.size + 1, 10, none⟩ v10).setCell ⟨w.heap.size + 1, 11, none⟩ v11) ∧ ((((((((((((y.setCell ⟨w.heap.size + 1, 0, none⟩ v0).setCell ⟨w.heap.size + 1, 1, none⟩ v1).setCell ⟨w.heap.size + 1, 2, none⟩ v2).setCell ⟨w.heap.size + 1, 3, none⟩ v3).setCell ⟨w.heap.size + 1, 4, none⟩ v4).setCell ⟨w.heap.size + 1, 5, none⟩ v5).setCell ⟨w.heap.size + 1, 6, none⟩ v6).setCell ⟨w.heap.size + 1, 7, none⟩ v7).setCell ⟨w.heap.size + 1, 8, none⟩ v8).setCell ⟨w.heap.size + 1, 9, none⟩ v9).setCell ⟨w.heap.size + 1, 10, none⟩ v10).setCell ⟨w.heap.size + 1, 11, none⟩ v11).heap[w.heap.size + 1]? = some (.cells #[v0, v1, v2, v3, v4, v5, v6, v7, v8, v9, v10, v11, z12] 50 (0, 0)) := set_one q10 (Nat.le_succ _) (by simp) 11 _
    have q12 : Only w.heap.size [50] y (((((((((((((y.setCell ⟨w.heap.size + 1, 0, none⟩ v0).setCell ⟨w.heap.size + 1, 1, none⟩ v1).setCell ⟨w.heap.size + 1, 2, none⟩ v2).setCell ⟨w.heap.size + 1, 3, none⟩ v3).setCell ⟨w.heap.size + 1, 4, none⟩ v4).setCell ⟨w.heap.size + 1, 5, none⟩ v5).setCell ⟨w.heap.size + 1, 6, none⟩ v6).setCell ⟨w.heap.size + 1, 7, none⟩ v7).setCell ⟨w.heap.size + 1, 8, none⟩ v8).setCell ⟨w.heap.size + 1, 9, none⟩ v9).setCell ⟨w.heap.size + 1, 10, none⟩ v10).setCell ⟨w.heap.size + 1, 11, none⟩ v11).setCell ⟨w.heap.size + 1, 12, none⟩ v12) ∧ (((((((((((((y.setCell ⟨w.heap.size + 1, 0, none⟩ v0).setCell ⟨w.heap.size + 1, 1, none⟩ v1).setCell ⟨w.heap.size + 1, 2, none⟩ v2).setCell ⟨w.heap.size + 1, 3, none⟩ v3).setCell ⟨w.heap.size + 1, 4, none⟩ v4).setCell ⟨w.heap.size + 1, 5, none⟩ v5).setCell ⟨w.heap.size + 1, 6, none⟩ v6).setCell ⟨w.heap.size + 1, 7, none⟩ v7).setCell ⟨w.heap.size + 1, 8, none⟩ v8).setCell ⟨w.heap.size + 1, 9, none⟩ v9).setCell ⟨w.heap.size + 1, 10, none⟩ v10).setCell ⟨w.heap.size + 1, 11, none⟩ v11).setCell ⟨w.heap.size + 1, 12, none⟩ v12).heap[w.heap.size + 1]? = some (.cells #[v0, v1, v2, v3, v4, v5, v6, v7, v8, v9, v10, v11, v12] 50 (0, 0)) := set_one q11 (Nat.le_succ _) (by simp) 12 _
    exact q12
  exact ⟨(cell_of_block q.2).trans rfl, (cell_of_block q.2).trans rfl, (cell_of_block q.2).trans rfl, (cell_of_block q.2).trans rfl, (cell_of_block q.2).trans rfl, (cell_of_block q.2).trans rfl, (cell_of_block q.2).trans rfl, (cell_of_block q.2).trans rfl, (cell_of_block q.2).trans rfl, (cell_of_block q.2).trans rfl, (cell_of_block q.2).trans rfl, (cell_of_block q.2).trans rfl, (cell_of_block q.2).trans rfl, hb.trans q.1.below, q.1⟩

end Go.Proofs.YtjplhiflemmkfaaGreatDoor
namespace Go.Proofs.YtjplhiflemmkfaaGreatDoor
open Go.RowKit

theorem own : ownKnob Tryz.prog.godebug = none := by kernel_rfl
theorem Tryz.et : Tryz.prog.globalNamed "errors.errorType" = some 0 := by kernel_rfl
theorem Tryz.ht : Tryz.prog.globalNamed "synodal/wire.halves" = some 1 := by kernel_rfl
theorem Tryz.rt : (Tryz.prog.cutTypes.find? (·.1 == "internal/reflectlite.rtype")).map (·.2) = some 284 := by kernel_rfl
theorem Tryz.oneRow : ((List.range 409).filter fun t => Tryz.prog.rowNamed t [101, 114, 114, 111, 114]) = [107] := by kernel_rfl
theorem Tryz.size : Tryz.prog.types.size = 409 := by kernel_rfl
def tab : List Int := Sum.halves.map Int.ofNat

theorem start_of_laid {W : World} (h : laidMetH Tryz.prog [("errors.errorType", Rows.laid_errors_errorType), ("synodal/wire.halves", Rows.laid_synodal_wire_halves)] W) : Start W := by
  have h' : laidMet Tryz.prog [("synodal/wire.halves", Rows.laid_synodal_wire_halves)] W ∧ handlesMet Tryz.prog [("errors.errorType", Rows.laid_errors_errorType)] W := h
  have g : Glob W := by
    obtain ⟨name, u, ty, e1, e2, e3, e4, e5⟩ := h'.2 _ (List.mem_singleton.2 rfl)
    have en : name = [101, 114, 114, 111, 114] := (Option.some.inj e1).symm
    subst en
    obtain rfl := Option.some.inj (Tryz.rt.symm.trans e2)
    have hm : ty ∈ (List.range 409).filter fun t => Tryz.prog.rowNamed t [101, 114, 114, 111, 114] := List.mem_filter.2 ⟨List.mem_range.2 (by rw [← Tryz.size]; exact e3), e4⟩
    rw [Tryz.oneRow] at hm
    obtain rfl := List.mem_singleton.1 hm
    have hh : typeHandle Tryz.prog 107 = .pointer (some ⟨2, 107, none⟩) := by kernel_rfl
    rw [hh] at e5
    have hc := World.var?_cell Tryz.et e5 0
    simp at hc
    exact hc
  have t : Table W := by
    have h2 : laidMet Tryz.prog (("synodal/wire.halves", Lib.tabData .u32 tab) :: []) W := h'.1
    have hi := Lib.tabIs_of_head (t := 316) (e := 250) (n := 16) Tryz.ht (by kernel_rfl) Tryz.underlying316 Tryz.underlying250 (by kernel_rfl) (by kernel_rfl) h2
    intro i hi16
    rw [hi.cell Tryz.ht i (by simpa [tab, Sum.halves] using hi16)]
    have e : ∀ i, i < 16 → tab.getD i 0 = ((Sum.halves.getD i 0 : Nat) : Int) := by decide
    rw [e i hi16]
  exact ⟨t, g, by have h1 := blk_lt (t 0 (by decide)); have h2 := blk_lt g; simp at h1 h2; omega⟩

theorem u8_wf {n : Int} (h : (Lit.int .u8 n).wf = true) : 0 ≤ n ∧ n < 256 := by
  simp [Lit.wf, IntKind.min, IntKind.max, IntKind.bits, IntKind.signed] at h; omega

theorem nat_of {n : Int} (h : (Lit.int .u8 n).wf = true) : ∃ c : Nat, n = (c : Int) ∧ c < 256 := by
  have := u8_wf h
  exact ⟨n.toNat, by omega, by omega⟩

/-- the first blocks laid as the packages lay them. -/
def layFirst (w : World) : World :=
  { w with heap := (w.heap.modify 0 fun
      | .cells _ t frozen => .cells #[.iface 284 (.agg #[.pointer (some ⟨2, 107, none⟩)])] t frozen
      | o => o).modify 1 fun
      | .cells _ t frozen => .cells (tab.map fun n => Value.int .u32 n).toArray t frozen
      | o => o }
end Go.Proofs.YtjplhiflemmkfaaGreatDoor

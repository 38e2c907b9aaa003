/- synodallaw2.few, synodallaw2.Good: contracts. -/
import Derived.Test.YtojmnlbdhpledaaDoorReaderS
import Derived.Test.YtojmnlbdhpledaaDoorReadPure
import Derived.Deep.DeepCutAuto
namespace Go.Proofs.YtojmnlbdhpledaaDoor
open Go.RowKit

/-- some Boolean is answered. -/
def SomeBool (e : Ending) : Prop := ∃ b, e = .returned (.bool b)
set_option maxRecDepth 20000 in
set_option maxHeartbeats 1000000 in
theorem few_any (k c q to' : Int) (t : ByteArray) (ao : Option Addr) (n cap : Nat) (hn : n ≤ maxLen) (ht : t.size ≤ maxLen) (w : World) :
    Calls Tryd.prog 8 #[.agg #[.int .i64 k, .int .i64 c, .int .i64 q, .string t, .slice ao n cap, .int .i64 to']] w fun e w' => SomeBool e ∧ Below w.heap.size w w' := by
  have hb : ∀ o, Below w.heap.size w (w.alloc o) := fun o => (Below.refl _ w).alloc (Nat.le_refl _) o
  have hn' : n ≤ 9223372036854775807 := hn
  have ht' : t.size ≤ 9223372036854775807 := ht
  clear hn ht
  go_enter Tryd.func8, Tryd.ntmps8
  by_cases h1 : t.size < 300
  · by_cases h2 : n < 100
    · go_wp2
      go_ret
      exact ⟨⟨_, rfl⟩, hb _⟩
    · go_wp2
      go_ret
      exact ⟨⟨_, rfl⟩, hb _⟩
  · go_wp2
    go_ret
    exact ⟨⟨_, rfl⟩, hb _⟩

/-- the text that Good leaves. -/
def goodT (t : ByteArray) : ByteArray := if 16 < t.size then t.extract 0 16 else t

theorem good_end (w y : World) (v0 v1 v2 v3 v4 v5 : Value) {z0 z1 z2 z3 z4 z5 : Value} (hz : y.heap[w.heap.size + 1]? = some (.cells #[z0, z1, z2, z3, z4, z5] 24 (0, 0))) (hb : Below w.heap.size w y) (W : World)
    (hW : W = ((((((y.setCell ⟨w.heap.size + 1, 0, none⟩ v0).setCell ⟨w.heap.size + 1, 1, none⟩ v1).setCell ⟨w.heap.size + 1, 2, none⟩ v2).setCell ⟨w.heap.size + 1, 3, none⟩ v3).setCell ⟨w.heap.size + 1, 4, none⟩ v4).setCell ⟨w.heap.size + 1, 5, none⟩ v5)) :
    W.cell? ⟨w.heap.size + 1, 0, none⟩ = some v0 ∧ W.cell? ⟨w.heap.size + 1, 1, none⟩ = some v1 ∧ W.cell? ⟨w.heap.size + 1, 2, none⟩ = some v2 ∧ W.cell? ⟨w.heap.size + 1, 3, none⟩ = some v3 ∧ W.cell? ⟨w.heap.size + 1, 4, none⟩ = some v4 ∧ W.cell? ⟨w.heap.size + 1, 5, none⟩ = some v5 ∧ Below w.heap.size w W := by
  have q : Only w.heap.size [24] y W ∧ W.heap[w.heap.size + 1]? = some (.cells #[v0, v1, v2, v3, v4, v5] 24 (0, 0)) := by
    rw [hW]
    exact set_one (set_one (set_one (set_one (set_one (set_one ⟨Only.refl _ _ _, hz⟩ (Nat.le_succ _) (by simp) 0 _) (Nat.le_succ _) (by simp) 1 _) (Nat.le_succ _) (by simp) 2 _) (Nat.le_succ _) (by simp) 3 _) (Nat.le_succ _) (by simp) 4 _) (Nat.le_succ _) (by simp) 5 _
  exact ⟨(cell_of_block q.2).trans rfl, (cell_of_block q.2).trans rfl, (cell_of_block q.2).trans rfl, (cell_of_block q.2).trans rfl, (cell_of_block q.2).trans rfl, (cell_of_block q.2).trans rfl, hb.trans q.1.below⟩

set_option maxRecDepth 20000 in
set_option maxHeartbeats 2000000 in
theorem good_any (k c q to' : Int) (t : ByteArray) (ao : Option Addr) (n cap : Nat) (hn : n ≤ cap) (hc : cap ≤ maxLen) (h0 : ao = none → cap = 0) (ht : t.size ≤ maxLen) (w : World) :
    Calls Tryd.prog 14 #[.agg #[.int .i64 k, .int .i64 c, .int .i64 q, .string t, .slice ao n cap, .int .i64 to']] w fun e w' => e = .returned (.agg #[.int .i64 (k % 5), .int .i64 c, .int .i64 q, .string (goodT t), .slice ao (min n 9) cap, .int .i64 (to' % 3)]) ∧ Below w.heap.size w w' := by
  have hc' : cap ≤ 9223372036854775807 := hc
  have ht' : t.size ≤ 9223372036854775807 := ht
  clear hc ht
  obtain ⟨W, hW⟩ : ∃ W, (w.alloc (.cells #[.int .i64 k, .int .i64 c, .int .i64 q, .string t, .slice ao n cap, .int .i64 to'] 24)).alloc (.cells #[.int .i64 0, .int .i64 0, .int .i64 0, .string ⟨#[]⟩, .slice none 0 0, .int .i64 0] 24) = W := ⟨_, rfl⟩
  have hb : W.heap[w.heap.size]? = some (.cells #[.int .i64 k, .int .i64 c, .int .i64 q, .string t, .slice ao n cap, .int .i64 to'] 24 (0, 0)) := by rw [← hW]; exact (Below.heap_alloc _ _ _ (by simp)).trans (heap_alloc_new _ _)
  have hz : W.heap[w.heap.size + 1]? = some (.cells #[.int .i64 0, .int .i64 0, .int .i64 0, .string ⟨#[]⟩, .slice none 0 0, .int .i64 0] 24 (0, 0)) := by
    rw [← hW]
    have h := heap_alloc_new (w.alloc (.cells #[.int .i64 k, .int .i64 c, .int .i64 q, .string t, .slice ao n cap, .int .i64 to'] 24)) (.cells #[.int .i64 0, .int .i64 0, .int .i64 0, .string ⟨#[]⟩, .slice none 0 0, .int .i64 0] 24)
    simpa using h
  have bW : Below w.heap.size w W := by rw [← hW]; exact ((Below.refl _ w).alloc (Nat.le_refl _) _).alloc (by simp) _
  have HW := hide hW
  have HZ := hide hz
  have HB := hide hb
  have BW := hide bW
  clear hW hz hb bW
  go_enter Tryd.func14, Tryd.ntmps14
  go_upto_region 1 with fail
  rw [unhide HW]
  have c0 : W.drew.cell? ⟨w.heap.size, 0, none⟩ = some (.int .i64 k) := (cell_of_block (unhide HB)).trans rfl
  have c5 : W.drew.cell? ⟨w.heap.size, 5, none⟩ = some (.int .i64 to') := (cell_of_block (unhide HB)).trans rfl
  have fb : ∀ i, W.drew.frozen? ⟨w.heap.size, i, none⟩ = false := fun i => free_of_block (unhide HB)
  have d5 : ∀ u, (W.setCell ⟨w.heap.size, 0, none⟩ u).drew.cell? ⟨w.heap.size, 5, none⟩ = some (.int .i64 to') := fun u => (cell_of_block (setCell_block (unhide HB))).trans rfl
  have g5 : ∀ u, (W.setCell ⟨w.heap.size, 0, none⟩ u).drew.frozen? ⟨w.heap.size, 5, none⟩ = false := fun u => free_of_block (setCell_block (unhide HB))
  have d0 : ∀ u, (W.setCell ⟨w.heap.size, 5, none⟩ u).drew.cell? ⟨w.heap.size, 0, none⟩ = some (.int .i64 k) := fun u => (cell_of_block (setCell_block (unhide HB))).trans rfl
  have g0 : ∀ u, (W.setCell ⟨w.heap.size, 5, none⟩ u).drew.frozen? ⟨w.heap.size, 0, none⟩ = false := fun u => free_of_block (setCell_block (unhide HB))
  go_cut [] (fun wc => wc.heap[w.heap.size]? = some (.cells #[.int .i64 (k % 5), .int .i64 c, .int .i64 q, .string t, .slice ao n cap, .int .i64 (to' % 3)] 24 (0, 0)) ∧ wc.heap[w.heap.size + 1]? = some (.cells #[.int .i64 0, .int .i64 0, .int .i64 0, .string ⟨#[]⟩, .slice none 0 0, .int .i64 0] 24 (0, 0)) ∧ Below w.heap.size w wc)
  case first =>
    go_region_with (go_at_call 24; refine (within_any _ _ _ (by omega) (by omega)).mono ?_; rintro e w' ⟨rfl, rfl⟩)
    all_goals go_wp2_with fail
    all_goals go_meet
    all_goals
      have KK := ((Kept.refl w.heap.size (fun k => k = w.heap.size) W).setCell (p := ⟨w.heap.size, 0, none⟩) (Nat.le_refl _) rfl (.int .i64 (k % 5))).setCell (p := ⟨w.heap.size, 5, none⟩) (Nat.le_refl _) rfl (.int .i64 (to' % 3))
      exact ⟨setCell_block (setCell_block (unhide HB)), (KK.2 _ (heap_lt (unhide HZ)) (by simp)).trans (unhide HZ), (unhide BW).trans KK.1.drew⟩
  case rest =>
    obtain ⟨hb, hz, bb⟩ := hcut
    clear c0 c5 fb d0 d5 g0 g5 HW HZ HB BW
    have B1 := hide bb
    have HB1 := hide hb
    have HZ1 := hide hz
    have a0 : wc.cell? ⟨w.heap.size, 0, none⟩ = some (.int .i64 (k % 5)) := (cell_of_block hb).trans rfl
    have a1 : wc.cell? ⟨w.heap.size, 1, none⟩ = some (.int .i64 c) := (cell_of_block hb).trans rfl
    have a2 : wc.cell? ⟨w.heap.size, 2, none⟩ = some (.int .i64 q) := (cell_of_block hb).trans rfl
    have a3 : wc.cell? ⟨w.heap.size, 3, none⟩ = some (.string t) := (cell_of_block hb).trans rfl
    have a4 : wc.cell? ⟨w.heap.size, 4, none⟩ = some (.slice ao n cap) := (cell_of_block hb).trans rfl
    have a5 : wc.cell? ⟨w.heap.size, 5, none⟩ = some (.int .i64 (to' % 3)) := (cell_of_block hb).trans rfl
    have fa : ∀ i, wc.frozen? ⟨w.heap.size, i, none⟩ = false := fun i => free_of_block hb
    have z0 : wc.cell? ⟨w.heap.size + 1, 0, none⟩ = some (.int .i64 0) := (cell_of_block hz).trans rfl
    have z1 : wc.cell? ⟨w.heap.size + 1, 1, none⟩ = some (.int .i64 0) := (cell_of_block hz).trans rfl
    have z2 : wc.cell? ⟨w.heap.size + 1, 2, none⟩ = some (.int .i64 0) := (cell_of_block hz).trans rfl
    have z3 : wc.cell? ⟨w.heap.size + 1, 3, none⟩ = some (.string ⟨#[]⟩) := (cell_of_block hz).trans rfl
    have z4 : wc.cell? ⟨w.heap.size + 1, 4, none⟩ = some (.slice none 0 0) := (cell_of_block hz).trans rfl
    have z5 : wc.cell? ⟨w.heap.size + 1, 5, none⟩ = some (.int .i64 0) := (cell_of_block hz).trans rfl
    have fz : ∀ i, wc.frozen? ⟨w.heap.size + 1, i, none⟩ = false := fun i => free_of_block hz
    clear hb hz bb
    by_cases h1 : 16 < t.size
    · by_cases h2 : 9 < n
      · cases ao with
        | none => exact absurd (h0 rfl) (by omega)
        | some ad =>
          go_wp2
          have KK := (((Kept.refl w.heap.size (fun k => k = w.heap.size) wc).setCell (p := ⟨w.heap.size, 3, none⟩) (Nat.le_refl _) rfl (.string (t.extract 0 16))).setCell (p := ⟨w.heap.size, 4, none⟩) (Nat.le_refl _) rfl (.slice (some ad) 9 cap))
          obtain ⟨y, hy⟩ : ∃ y : World, y = ((wc.setCell ⟨w.heap.size, 3, none⟩ (.string (t.extract 0 16))).setCell ⟨w.heap.size, 4, none⟩ (.slice (some ad) 9 cap)) := ⟨_, rfl⟩
          rw [← hy] at KK ⊢
          have hz := (KK.2 _ (heap_lt (unhide HZ1)) (by simp)).trans (unhide HZ1)
          have by' := (unhide B1).trans KK.1
          clear a0 a1 a2 a3 a4 a5 z0 z1 z2 z3 z4 z5 fa fz KK hy
          obtain ⟨W, hW⟩ : ∃ W : World, W = ((((((y.setCell ⟨w.heap.size + 1, 0, none⟩ (.int .i64 (k % 5))).setCell ⟨w.heap.size + 1, 1, none⟩ (.int .i64 c)).setCell ⟨w.heap.size + 1, 2, none⟩ (.int .i64 q)).setCell ⟨w.heap.size + 1, 3, none⟩ (.string (t.extract 0 16))).setCell ⟨w.heap.size + 1, 4, none⟩ (.slice (some ad) 9 cap)).setCell ⟨w.heap.size + 1, 5, none⟩ (.int .i64 (to' % 3))) := ⟨_, rfl⟩
          rw [← hW]
          obtain ⟨d0, d1, d2, d3, d4, d5, bW⟩ := good_end w y _ _ _ _ _ _ hz by' W hW
          refine bodyPost_ret (v := .agg #[.int .i64 (k % 5), .int .i64 c, .int .i64 q, .string (t.extract 0 16), .slice (some ad) 9 cap, .int .i64 (to' % 3)]) (by simp [results, Tryd.results14, go_sem, d0, d1, d2, d3, d4, d5]) rfl ⟨?_, bW⟩
          unfold goodT
          rw [if_pos h1, Nat.min_eq_right (by omega)]
      · go_wp2
        have KK := ((Kept.refl w.heap.size (fun k => k = w.heap.size) wc).setCell (p := ⟨w.heap.size, 3, none⟩) (Nat.le_refl _) rfl (.string (t.extract 0 16)))
        obtain ⟨y, hy⟩ : ∃ y : World, y = (wc.setCell ⟨w.heap.size, 3, none⟩ (.string (t.extract 0 16))) := ⟨_, rfl⟩
        rw [← hy] at KK ⊢
        have hz := (KK.2 _ (heap_lt (unhide HZ1)) (by simp)).trans (unhide HZ1)
        have by' := (unhide B1).trans KK.1
        clear a0 a1 a2 a3 a4 a5 z0 z1 z2 z3 z4 z5 fa fz KK hy
        obtain ⟨W, hW⟩ : ∃ W : World, W = ((((((y.setCell ⟨w.heap.size + 1, 0, none⟩ (.int .i64 (k % 5))).setCell ⟨w.heap.size + 1, 1, none⟩ (.int .i64 c)).setCell ⟨w.heap.size + 1, 2, none⟩ (.int .i64 q)).setCell ⟨w.heap.size + 1, 3, none⟩ (.string (t.extract 0 16))).setCell ⟨w.heap.size + 1, 4, none⟩ (.slice ao n cap)).setCell ⟨w.heap.size + 1, 5, none⟩ (.int .i64 (to' % 3))) := ⟨_, rfl⟩
        rw [← hW]
        obtain ⟨d0, d1, d2, d3, d4, d5, bW⟩ := good_end w y _ _ _ _ _ _ hz by' W hW
        refine bodyPost_ret (v := .agg #[.int .i64 (k % 5), .int .i64 c, .int .i64 q, .string (t.extract 0 16), .slice ao n cap, .int .i64 (to' % 3)]) (by simp [results, Tryd.results14, go_sem, d0, d1, d2, d3, d4, d5]) rfl ⟨?_, bW⟩
        unfold goodT
        rw [if_pos h1, Nat.min_eq_left (by omega)]
    · by_cases h2 : 9 < n
      · cases ao with
        | none => exact absurd (h0 rfl) (by omega)
        | some ad =>
          go_wp2
          have KK := ((Kept.refl w.heap.size (fun k => k = w.heap.size) wc).setCell (p := ⟨w.heap.size, 4, none⟩) (Nat.le_refl _) rfl (.slice (some ad) 9 cap))
          obtain ⟨y, hy⟩ : ∃ y : World, y = (wc.setCell ⟨w.heap.size, 4, none⟩ (.slice (some ad) 9 cap)) := ⟨_, rfl⟩
          rw [← hy] at KK ⊢
          have hz := (KK.2 _ (heap_lt (unhide HZ1)) (by simp)).trans (unhide HZ1)
          have by' := (unhide B1).trans KK.1
          clear a0 a1 a2 a3 a4 a5 z0 z1 z2 z3 z4 z5 fa fz KK hy
          obtain ⟨W, hW⟩ : ∃ W : World, W = ((((((y.setCell ⟨w.heap.size + 1, 0, none⟩ (.int .i64 (k % 5))).setCell ⟨w.heap.size + 1, 1, none⟩ (.int .i64 c)).setCell ⟨w.heap.size + 1, 2, none⟩ (.int .i64 q)).setCell ⟨w.heap.size + 1, 3, none⟩ (.string (t))).setCell ⟨w.heap.size + 1, 4, none⟩ (.slice (some ad) 9 cap)).setCell ⟨w.heap.size + 1, 5, none⟩ (.int .i64 (to' % 3))) := ⟨_, rfl⟩
          rw [← hW]
          obtain ⟨d0, d1, d2, d3, d4, d5, bW⟩ := good_end w y _ _ _ _ _ _ hz by' W hW
          refine bodyPost_ret (v := .agg #[.int .i64 (k % 5), .int .i64 c, .int .i64 q, .string (t), .slice (some ad) 9 cap, .int .i64 (to' % 3)]) (by simp [results, Tryd.results14, go_sem, d0, d1, d2, d3, d4, d5]) rfl ⟨?_, bW⟩
          unfold goodT
          rw [if_neg h1, Nat.min_eq_right (by omega)]
      · go_wp2
        have hz := unhide HZ1
        have by' := unhide B1
        clear a0 a1 a2 a3 a4 a5 z0 z1 z2 z3 z4 z5 fa fz
        obtain ⟨W, hW⟩ : ∃ W : World, W = ((((((wc.setCell ⟨w.heap.size + 1, 0, none⟩ (.int .i64 (k % 5))).setCell ⟨w.heap.size + 1, 1, none⟩ (.int .i64 c)).setCell ⟨w.heap.size + 1, 2, none⟩ (.int .i64 q)).setCell ⟨w.heap.size + 1, 3, none⟩ (.string (t))).setCell ⟨w.heap.size + 1, 4, none⟩ (.slice ao n cap)).setCell ⟨w.heap.size + 1, 5, none⟩ (.int .i64 (to' % 3))) := ⟨_, rfl⟩
        rw [← hW]
        obtain ⟨d0, d1, d2, d3, d4, d5, bW⟩ := good_end w wc _ _ _ _ _ _ hz by' W hW
        refine bodyPost_ret (v := .agg #[.int .i64 (k % 5), .int .i64 c, .int .i64 q, .string (t), .slice ao n cap, .int .i64 (to' % 3)]) (by simp [results, Tryd.results14, go_sem, d0, d1, d2, d3, d4, d5]) rfl ⟨?_, bW⟩
        unfold goodT
        rw [if_neg h1, Nat.min_eq_left (by omega)]
end Go.Proofs.YtojmnlbdhpledaaDoor

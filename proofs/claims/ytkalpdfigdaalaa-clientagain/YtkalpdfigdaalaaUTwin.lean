/- client.twin: a contract. -/
import Derived.Test.YtkalpdfigdaalaaUBase
namespace Go.Proofs.Ytkalpdfigdaalaa
open Go.RowKit Go.Maps

set_option maxRecDepth 20000 in
set_option maxHeartbeats 1000000 in
theorem twin_any (e : En) (mo : Option Addr) (n cap : Nat) (hn : e.ms.length = n) (w : World) (hb : IntsR w mo e.ms) (hl : n ≤ 1000000) :
    Calls Try.prog 22 #[.agg #[.int .i64 e.kind, .int .i64 e.client, .int .i64 e.seq, .string e.text, .slice mo n cap, .int .i64 e.dest]] w fun x w' =>
      ∃ mo' mc', x = .returned (.agg #[.int .i64 e.kind, .int .i64 e.client, .int .i64 e.seq, .string e.text, .slice mo' n mc', .int .i64 e.dest]) ∧ Ir w.heap.size w' (.slice mo' n mc') e.ms ∧ Below w.heap.size w w' := by
  obtain ⟨kind, client, seq, text, ms, dest⟩ := e
  simp only at hn hb ⊢
  obtain ⟨W0, hW0⟩ : ∃ W, w.alloc (.cells #[.int .i64 kind, .int .i64 client, .int .i64 seq, .string text, .slice mo n cap, .int .i64 dest] 31) = W := ⟨_, rfl⟩
  obtain ⟨W, hW⟩ : ∃ W, W0.alloc (.cells #[.int .i64 0, .int .i64 0, .int .i64 0, .string ⟨#[]⟩, .slice none 0 0, .int .i64 0] 31) = W := ⟨_, rfl⟩
  have s0 : W0.heap.size = w.heap.size + 1 := by rw [← hW0]; simp
  have b0 : Below w.heap.size w W0 := by rw [← hW0]; exact (Below.refl _ w).alloc (Nat.le_refl _) _
  have b1 : Below W0.heap.size W0 W := by rw [← hW]; exact (Below.refl _ W0).alloc (Nat.le_refl _) _
  have bW := below_far b0 b1
  have x0 : W.heap[w.heap.size]? = some (.cells #[.int .i64 kind, .int .i64 client, .int .i64 seq, .string text, .slice mo n cap, .int .i64 dest] 31 (0, 0)) := Below.stay b1 (by rw [← hW0]; exact box_at _ _)
  have x1 : W.heap[w.heap.size + 1]? = some (.cells #[.int .i64 0, .int .i64 0, .int .i64 0, .string ⟨#[]⟩, .slice none 0 0, .int .i64 0] 31 (0, 0)) := by rw [← s0, ← hW]; exact box_at _ _
  have HI := hide (hb.below bW)
  have HN := hide hn
  have HL : Hid (([] : List Int).length + n ≤ 1000000000) := by show _ ≤ _; simp; omega
  have HW : Hid ((w.alloc (.cells #[.int .i64 kind, .int .i64 client, .int .i64 seq, .string text, .slice mo n cap, .int .i64 dest] 31)).alloc (.cells #[.int .i64 0, .int .i64 0, .int .i64 0, .string ⟨#[]⟩, .slice none 0 0, .int .i64 0] 31) = W) := by rw [hW0]; exact hW
  have a4 : W.cell? ⟨w.heap.size, 4, none⟩ = some (.slice mo n cap) := (cell_of_block x0).trans rfl
  have BW := hide bW
  have X0 := hide x0
  have X1 := hide x1
  clear hW hW0 s0 b0 b1 bW x0 x1 hb hn
  go_enter Try.func22, Try.ntmps22
  go_upto_region 1 with fail
  rw [unhide HW]
  go_wp2_with (refine wpList_app rfl (.const (.slice none 0 0)) (.tmp 4) rfl w.heap.size (.slice none 0 0) [] rfl (Ir.nil _ _) mo n cap ms rfl (unhide HN) (unhide HI) (unhide HL) (unhide BW).size ?_)
  intro mv w1 o1 g1
  have b1 : Below W.heap.size W w1 := (Below.refl _ W).grown g1 (Nat.le_refl _) (fun k hk => by simp [Value.ownBlock] at hk)
  have h0 := Below.stay b1 (unhide X0)
  have h1 := Below.stay b1 (unhide X1)
  have B1 := hide (below_far (unhide BW) b1)
  have O1 := hide o1
  have f4 : w1.frozen? ⟨w.heap.size, 4, none⟩ = false := free_of_block h0
  have a4' : w1.cell? ⟨w.heap.size, 4, none⟩ = some (.slice mo n cap) := (cell_of_block h0).trans rfl
  have H0 := hide h0
  have H1 := hide h1
  clear h0 h1 b1 o1 g1 a4 X0 X1 BW HI HL
  obtain ⟨Y, hY⟩ : ∃ Y, w1.setCell ⟨w.heap.size, 4, none⟩ mv = Y := ⟨_, rfl⟩
  have y0 : Y.heap[w.heap.size]? = some (.cells #[.int .i64 kind, .int .i64 client, .int .i64 seq, .string text, mv, .int .i64 dest] 31 (0, 0)) := by rw [← hY]; exact setCell_block (unhide H0)
  have hkY : ∀ k, k ≠ w.heap.size → Y.heap[k]? = w1.heap[k]? := fun k hk => by rw [← hY]; exact Below.heap_setCell _ _ _ k hk
  have y1 := (hkY (w.heap.size + 1) (by omega)).trans (unhide H1)
  have bY : Below w.heap.size w Y := by rw [← hY]; exact (unhide B1).setCell (p := ⟨w.heap.size, 4, none⟩) (Nat.le_refl _) _
  have oY : Ir w.heap.size Y mv ms := (unhide O1).other hkY (unhide H0) (by decide)
  have k0 : Y.cell? ⟨w.heap.size, 0, none⟩ = some (.int .i64 kind) := (cell_of_block y0).trans rfl
  have k1 : Y.cell? ⟨w.heap.size, 1, none⟩ = some (.int .i64 client) := (cell_of_block y0).trans rfl
  have k2 : Y.cell? ⟨w.heap.size, 2, none⟩ = some (.int .i64 seq) := (cell_of_block y0).trans rfl
  have k3 : Y.cell? ⟨w.heap.size, 3, none⟩ = some (.string text) := (cell_of_block y0).trans rfl
  have k4 : Y.cell? ⟨w.heap.size, 4, none⟩ = some (mv) := (cell_of_block y0).trans rfl
  have k5 : Y.cell? ⟨w.heap.size, 5, none⟩ = some (.int .i64 dest) := (cell_of_block y0).trans rfl
  have z0 : Y.cell? ⟨w.heap.size + 1, 0, none⟩ = some (.int .i64 0) := (cell_of_block y1).trans rfl
  have z1 : Y.cell? ⟨w.heap.size + 1, 1, none⟩ = some (.int .i64 0) := (cell_of_block y1).trans rfl
  have z2 : Y.cell? ⟨w.heap.size + 1, 2, none⟩ = some (.int .i64 0) := (cell_of_block y1).trans rfl
  have z3 : Y.cell? ⟨w.heap.size + 1, 3, none⟩ = some (.string ⟨#[]⟩) := (cell_of_block y1).trans rfl
  have z4 : Y.cell? ⟨w.heap.size + 1, 4, none⟩ = some (.slice none 0 0) := (cell_of_block y1).trans rfl
  have z5 : Y.cell? ⟨w.heap.size + 1, 5, none⟩ = some (.int .i64 0) := (cell_of_block y1).trans rfl
  have fz : ∀ i, Y.frozen? ⟨w.heap.size + 1, i, none⟩ = false := fun i => free_of_block y1
  have Y1 := hide y1
  have BY := hide bY
  have OY := hide oY
  have HY := hide hY
  clear y0 y1 bY oY hY hkY H0 H1 O1
  obtain ⟨mo', mcap, rfl, _⟩ := (unhide OY).slice
  rw [unhide HN] at *
  go_upto_region 2 with fail
  rw [unhide HY]
  go_wp2
  obtain ⟨V, hV⟩ : ∃ V : World, V = ((((((Y.setCell ⟨w.heap.size + 1, 0, none⟩ (.int .i64 kind)).setCell ⟨w.heap.size + 1, 1, none⟩ (.int .i64 client)).setCell ⟨w.heap.size + 1, 2, none⟩ (.int .i64 seq)).setCell ⟨w.heap.size + 1, 3, none⟩ (.string text)).setCell ⟨w.heap.size + 1, 4, none⟩ (.slice mo' n mcap)).setCell ⟨w.heap.size + 1, 5, none⟩ (.int .i64 dest)) := ⟨_, rfl⟩
  rw [← hV]
  obtain ⟨hh, bV, kV⟩ := six_end (unhide Y1) (Nat.le_succ _) (unhide BY) V hV
  have d0 : V.cell? ⟨w.heap.size + 1, 0, none⟩ = some (.int .i64 kind) := (cell_of_block hh).trans rfl
  have d1 : V.cell? ⟨w.heap.size + 1, 1, none⟩ = some (.int .i64 client) := (cell_of_block hh).trans rfl
  have d2 : V.cell? ⟨w.heap.size + 1, 2, none⟩ = some (.int .i64 seq) := (cell_of_block hh).trans rfl
  have d3 : V.cell? ⟨w.heap.size + 1, 3, none⟩ = some (.string text) := (cell_of_block hh).trans rfl
  have d4 : V.cell? ⟨w.heap.size + 1, 4, none⟩ = some (.slice mo' n mcap) := (cell_of_block hh).trans rfl
  have d5 : V.cell? ⟨w.heap.size + 1, 5, none⟩ = some (.int .i64 dest) := (cell_of_block hh).trans rfl
  refine bodyPost_ret (v := .agg #[.int .i64 kind, .int .i64 client, .int .i64 seq, .string text, .slice mo' n mcap, .int .i64 dest]) (by simp [results, Try.results22, go_sem, d0, d1, d2, d3, d4, d5]) rfl ⟨_, _, rfl, ?_, bV⟩
  exact (unhide OY).other kV (unhide Y1) (by decide)
end Go.Proofs.Ytkalpdfigdaalaa

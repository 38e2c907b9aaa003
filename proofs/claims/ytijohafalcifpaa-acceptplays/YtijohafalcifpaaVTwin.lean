/- accept.twin: a contract. -/
import Derived.Test.YtijohafalcifpaaVBase
namespace Go.Proofs.Ytijohafalcifpaa
open Go.RowKit Go.Maps

/-- a store of a whole vote. -/
theorem eight_end {w y : World} {B : Nat} {v0 v1 v2 v3 v4 v5 v6 v7 : Value} {z0 z1 z2 z3 z4 z5 z6 z7 : Value} {t : TypeId} (hz : y.heap[B]? = some (.cells #[z0, z1, z2, z3, z4, z5, z6, z7] t (0, 0))) (hB : w.heap.size ≤ B) (hb : Below w.heap.size w y) (W : World)
    (hW : W = ((((((((y.setCell ⟨B, 0, none⟩ v0).setCell ⟨B, 1, none⟩ v1).setCell ⟨B, 2, none⟩ v2).setCell ⟨B, 3, none⟩ v3).setCell ⟨B, 4, none⟩ v4).setCell ⟨B, 5, none⟩ v5).setCell ⟨B, 6, none⟩ v6).setCell ⟨B, 7, none⟩ v7)) :
    W.heap[B]? = some (.cells #[v0, v1, v2, v3, v4, v5, v6, v7] t (0, 0)) ∧ Below w.heap.size w W ∧ ∀ k, k ≠ B → W.heap[k]? = y.heap[k]? := by
  obtain ⟨y0, e0⟩ : ∃ x, (y.setCell ⟨B, 0, none⟩ v0) = x := ⟨_, rfl⟩
  have h0 : y0.heap[B]? = some (.cells #[v0, z1, z2, z3, z4, z5, z6, z7] t (0, 0)) := by rw [← e0]; exact setCell_block hz
  have b0 : Below w.heap.size w y0 := by rw [← e0]; exact hb.setCell (p := ⟨B, 0, none⟩) hB v0
  have k0 : ∀ k, k ≠ B → y0.heap[k]? = y.heap[k]? := fun k hk => by rw [← e0, Below.heap_setCell _ _ _ k hk]
  obtain ⟨y1, e1⟩ : ∃ x, (y0.setCell ⟨B, 1, none⟩ v1) = x := ⟨_, rfl⟩
  have h1 : y1.heap[B]? = some (.cells #[v0, v1, z2, z3, z4, z5, z6, z7] t (0, 0)) := by rw [← e1]; exact setCell_block h0
  have b1 : Below w.heap.size w y1 := by rw [← e1]; exact b0.setCell (p := ⟨B, 1, none⟩) hB v1
  have k1 : ∀ k, k ≠ B → y1.heap[k]? = y.heap[k]? := fun k hk => by rw [← e1, Below.heap_setCell _ _ _ k hk]; exact k0 k hk
  obtain ⟨y2, e2⟩ : ∃ x, (y1.setCell ⟨B, 2, none⟩ v2) = x := ⟨_, rfl⟩
  have h2 : y2.heap[B]? = some (.cells #[v0, v1, v2, z3, z4, z5, z6, z7] t (0, 0)) := by rw [← e2]; exact setCell_block h1
  have b2 : Below w.heap.size w y2 := by rw [← e2]; exact b1.setCell (p := ⟨B, 2, none⟩) hB v2
  have k2 : ∀ k, k ≠ B → y2.heap[k]? = y.heap[k]? := fun k hk => by rw [← e2, Below.heap_setCell _ _ _ k hk]; exact k1 k hk
  obtain ⟨y3, e3⟩ : ∃ x, (y2.setCell ⟨B, 3, none⟩ v3) = x := ⟨_, rfl⟩
  have h3 : y3.heap[B]? = some (.cells #[v0, v1, v2, v3, z4, z5, z6, z7] t (0, 0)) := by rw [← e3]; exact setCell_block h2
  have b3 : Below w.heap.size w y3 := by rw [← e3]; exact b2.setCell (p := ⟨B, 3, none⟩) hB v3
  have k3 : ∀ k, k ≠ B → y3.heap[k]? = y.heap[k]? := fun k hk => by rw [← e3, Below.heap_setCell _ _ _ k hk]; exact k2 k hk
  obtain ⟨y4, e4⟩ : ∃ x, (y3.setCell ⟨B, 4, none⟩ v4) = x := ⟨_, rfl⟩
  have h4 : y4.heap[B]? = some (.cells #[v0, v1, v2, v3, v4, z5, z6, z7] t (0, 0)) := by rw [← e4]; exact setCell_block h3
  have b4 : Below w.heap.size w y4 := by rw [← e4]; exact b3.setCell (p := ⟨B, 4, none⟩) hB v4
  have k4 : ∀ k, k ≠ B → y4.heap[k]? = y.heap[k]? := fun k hk => by rw [← e4, Below.heap_setCell _ _ _ k hk]; exact k3 k hk
  obtain ⟨y5, e5⟩ : ∃ x, (y4.setCell ⟨B, 5, none⟩ v5) = x := ⟨_, rfl⟩
  have h5 : y5.heap[B]? = some (.cells #[v0, v1, v2, v3, v4, v5, z6, z7] t (0, 0)) := by rw [← e5]; exact setCell_block h4
  have b5 : Below w.heap.size w y5 := by rw [← e5]; exact b4.setCell (p := ⟨B, 5, none⟩) hB v5
  have k5 : ∀ k, k ≠ B → y5.heap[k]? = y.heap[k]? := fun k hk => by rw [← e5, Below.heap_setCell _ _ _ k hk]; exact k4 k hk
  obtain ⟨y6, e6⟩ : ∃ x, (y5.setCell ⟨B, 6, none⟩ v6) = x := ⟨_, rfl⟩
  have h6 : y6.heap[B]? = some (.cells #[v0, v1, v2, v3, v4, v5, v6, z7] t (0, 0)) := by rw [← e6]; exact setCell_block h5
  have b6 : Below w.heap.size w y6 := by rw [← e6]; exact b5.setCell (p := ⟨B, 6, none⟩) hB v6
  have k6 : ∀ k, k ≠ B → y6.heap[k]? = y.heap[k]? := fun k hk => by rw [← e6, Below.heap_setCell _ _ _ k hk]; exact k5 k hk
  obtain ⟨y7, e7⟩ : ∃ x, (y6.setCell ⟨B, 7, none⟩ v7) = x := ⟨_, rfl⟩
  have h7 : y7.heap[B]? = some (.cells #[v0, v1, v2, v3, v4, v5, v6, v7] t (0, 0)) := by rw [← e7]; exact setCell_block h6
  have b7 : Below w.heap.size w y7 := by rw [← e7]; exact b6.setCell (p := ⟨B, 7, none⟩) hB v7
  have k7 : ∀ k, k ≠ B → y7.heap[k]? = y.heap[k]? := fun k hk => by rw [← e7, Below.heap_setCell _ _ _ k hk]; exact k6 k hk
  rw [e0, e1, e2, e3, e4, e5, e6, e7] at hW
  subst hW
  exact ⟨h7, b7, k7⟩
theorem Ir.other {base B : Nat} {y W : World} {v : Value} {ys : List Int} (h : Ir base y v ys) (hk : ∀ k, k ≠ B → W.heap[k]? = y.heap[k]?) {cs : Array Value} {t : TypeId} {fr : Nat × Nat} (hB : y.heap[B]? = some (.cells cs t fr)) (ht : t ≠ 3) : Ir base W v ys :=
  own_kept h fun k e => hk k (fun x => by
    subst x
    obtain ⟨_, cur, fr', hc⟩ := own_tag h k e
    rw [hB] at hc; cases hc; exact ht rfl)

set_option maxRecDepth 20000 in
set_option maxHeartbeats 1000000 in
theorem twin_any (v : Vt) (mo : Option Addr) (cap : Nat) (w : World) (hb : IntsR w mo v.e.ms) (hl : v.e.ms.length ≤ 1000000) :
    Calls Try.prog 26 #[.agg (v.cells (.slice mo v.e.ms.length cap)).toArray] w fun x w' =>
      ∃ mo' mc', x = .returned (.agg (v.cells (.slice mo' v.e.ms.length mc')).toArray) ∧ Ir w.heap.size w' (.slice mo' v.e.ms.length mc') v.e.ms ∧ Below w.heap.size w w' := by
  obtain ⟨slot, ballot, ⟨kind, client, seq, text, ms, dest⟩⟩ := v
  simp only [Vt.cells, En.cells] at hb hl ⊢
  obtain ⟨n, hn⟩ : ∃ n, ms.length = n := ⟨_, rfl⟩
  rw [hn] at hl ⊢
  obtain ⟨W0, hW0⟩ : ∃ W, w.alloc (.cells #[.int .i64 slot, .int .i64 ballot, .int .i64 kind, .int .i64 client, .int .i64 seq, .string text, .slice mo n cap, .int .i64 dest] 54) = W := ⟨_, rfl⟩
  obtain ⟨W, hW⟩ : ∃ W, W0.alloc (.cells #[.int .i64 0, .int .i64 0, .int .i64 0, .int .i64 0, .int .i64 0, .string ⟨#[]⟩, .slice none 0 0, .int .i64 0] 54) = W := ⟨_, rfl⟩
  have s0 : W0.heap.size = w.heap.size + 1 := by rw [← hW0]; simp
  have b0 : Below w.heap.size w W0 := by rw [← hW0]; exact (Below.refl _ w).alloc (Nat.le_refl _) _
  have b1 : Below W0.heap.size W0 W := by rw [← hW]; exact (Below.refl _ W0).alloc (Nat.le_refl _) _
  have bW := below_far b0 b1
  have x0 : W.heap[w.heap.size]? = some (.cells #[.int .i64 slot, .int .i64 ballot, .int .i64 kind, .int .i64 client, .int .i64 seq, .string text, .slice mo n cap, .int .i64 dest] 54 (0, 0)) := Below.stay b1 (by rw [← hW0]; exact box_at _ _)
  have x1 : W.heap[w.heap.size + 1]? = some (.cells #[.int .i64 0, .int .i64 0, .int .i64 0, .int .i64 0, .int .i64 0, .string ⟨#[]⟩, .slice none 0 0, .int .i64 0] 54 (0, 0)) := by rw [← s0, ← hW]; exact box_at _ _
  have HI := hide (hb.below bW)
  have HN := hide hn
  have HL : Hid (([] : List Int).length + n ≤ 1000000000) := by show _ ≤ _; simp; omega
  have HW : Hid ((w.alloc (.cells #[.int .i64 slot, .int .i64 ballot, .int .i64 kind, .int .i64 client, .int .i64 seq, .string text, .slice mo n cap, .int .i64 dest] 54)).alloc (.cells #[.int .i64 0, .int .i64 0, .int .i64 0, .int .i64 0, .int .i64 0, .string ⟨#[]⟩, .slice none 0 0, .int .i64 0] 54) = W) := by rw [hW0]; exact hW
  have a4 : W.cell? ⟨w.heap.size, 6, none⟩ = some (.slice mo n cap) := (cell_of_block x0).trans rfl
  have BW := hide bW
  have X0 := hide x0
  have X1 := hide x1
  clear hW hW0 s0 b0 b1 bW x0 x1 hb hn
  go_enter Try.func26, Try.ntmps26
  go_upto_region 1 with fail
  rw [unhide HW]
  go_wp2_with (refine wpList_app rfl (.const (.slice none 0 0)) (.tmp 5) rfl w.heap.size (.slice none 0 0) [] rfl (Ir.nil _ _) mo n cap ms rfl (unhide HN) (unhide HI) (unhide HL) (unhide BW).size ?_)
  intro mv w1 o1 g1
  have b1 : Below W.heap.size W w1 := (Below.refl _ W).grown g1 (Nat.le_refl _) (fun k hk => by simp [Value.ownBlock] at hk)
  have h0 := Below.stay b1 (unhide X0)
  have h1 := Below.stay b1 (unhide X1)
  have B1 := hide (below_far (unhide BW) b1)
  have O1 := hide o1
  have f4 : w1.frozen? ⟨w.heap.size, 6, none⟩ = false := free_of_block h0
  have a4' : w1.cell? ⟨w.heap.size, 6, none⟩ = some (.slice mo n cap) := (cell_of_block h0).trans rfl
  have H0 := hide h0
  have H1 := hide h1
  clear h0 h1 b1 o1 g1 a4 X0 X1 BW HI HL
  obtain ⟨Y, hY⟩ : ∃ Y, w1.setCell ⟨w.heap.size, 6, none⟩ mv = Y := ⟨_, rfl⟩
  have y0 : Y.heap[w.heap.size]? = some (.cells #[.int .i64 slot, .int .i64 ballot, .int .i64 kind, .int .i64 client, .int .i64 seq, .string text, mv, .int .i64 dest] 54 (0, 0)) := by rw [← hY]; exact setCell_block (unhide H0)
  have hkY : ∀ k, k ≠ w.heap.size → Y.heap[k]? = w1.heap[k]? := fun k hk => by rw [← hY]; exact Below.heap_setCell _ _ _ k hk
  have y1 := (hkY (w.heap.size + 1) (by omega)).trans (unhide H1)
  have bY : Below w.heap.size w Y := by rw [← hY]; exact (unhide B1).setCell (p := ⟨w.heap.size, 6, none⟩) (Nat.le_refl _) _
  have oY : Ir w.heap.size Y mv ms := (unhide O1).other hkY (unhide H0) (by decide)
  have k0 : Y.cell? ⟨w.heap.size, 0, none⟩ = some (.int .i64 slot) := (cell_of_block y0).trans rfl
  have k1 : Y.cell? ⟨w.heap.size, 1, none⟩ = some (.int .i64 ballot) := (cell_of_block y0).trans rfl
  have k2 : Y.cell? ⟨w.heap.size, 2, none⟩ = some (.int .i64 kind) := (cell_of_block y0).trans rfl
  have k3 : Y.cell? ⟨w.heap.size, 3, none⟩ = some (.int .i64 client) := (cell_of_block y0).trans rfl
  have k4 : Y.cell? ⟨w.heap.size, 4, none⟩ = some (.int .i64 seq) := (cell_of_block y0).trans rfl
  have k5 : Y.cell? ⟨w.heap.size, 5, none⟩ = some (.string text) := (cell_of_block y0).trans rfl
  have k6 : Y.cell? ⟨w.heap.size, 6, none⟩ = some (mv) := (cell_of_block y0).trans rfl
  have k7 : Y.cell? ⟨w.heap.size, 7, none⟩ = some (.int .i64 dest) := (cell_of_block y0).trans rfl
  have z0 : Y.cell? ⟨w.heap.size + 1, 0, none⟩ = some (.int .i64 0) := (cell_of_block y1).trans rfl
  have z1 : Y.cell? ⟨w.heap.size + 1, 1, none⟩ = some (.int .i64 0) := (cell_of_block y1).trans rfl
  have z2 : Y.cell? ⟨w.heap.size + 1, 2, none⟩ = some (.int .i64 0) := (cell_of_block y1).trans rfl
  have z3 : Y.cell? ⟨w.heap.size + 1, 3, none⟩ = some (.int .i64 0) := (cell_of_block y1).trans rfl
  have z4 : Y.cell? ⟨w.heap.size + 1, 4, none⟩ = some (.int .i64 0) := (cell_of_block y1).trans rfl
  have z5 : Y.cell? ⟨w.heap.size + 1, 5, none⟩ = some (.string ⟨#[]⟩) := (cell_of_block y1).trans rfl
  have z6 : Y.cell? ⟨w.heap.size + 1, 6, none⟩ = some (.slice none 0 0) := (cell_of_block y1).trans rfl
  have z7 : Y.cell? ⟨w.heap.size + 1, 7, none⟩ = some (.int .i64 0) := (cell_of_block y1).trans rfl
  have fz : ∀ i, Y.frozen? ⟨w.heap.size + 1, i, none⟩ = false := fun i => free_of_block y1
  have Y1 := hide y1
  have BY := hide bY
  have OY := hide oY
  have HY := hide hY
  clear y0 y1 bY oY hY hkY H0 H1 O1
  obtain ⟨mo', mcap, rfl, _⟩ := (unhide OY).slice
  rw [unhide HN] at *
  go_upto_region 2 with fail
  rw [unhide HY]
  go_wp2
  obtain ⟨V, hV⟩ : ∃ V : World, V = ((((((((Y.setCell ⟨w.heap.size + 1, 0, none⟩ (.int .i64 slot)).setCell ⟨w.heap.size + 1, 1, none⟩ (.int .i64 ballot)).setCell ⟨w.heap.size + 1, 2, none⟩ (.int .i64 kind)).setCell ⟨w.heap.size + 1, 3, none⟩ (.int .i64 client)).setCell ⟨w.heap.size + 1, 4, none⟩ (.int .i64 seq)).setCell ⟨w.heap.size + 1, 5, none⟩ (.string text)).setCell ⟨w.heap.size + 1, 6, none⟩ (.slice mo' n mcap)).setCell ⟨w.heap.size + 1, 7, none⟩ (.int .i64 dest)) := ⟨_, rfl⟩
  rw [← hV]
  obtain ⟨hh, bV, kV⟩ := eight_end (unhide Y1) (Nat.le_succ _) (unhide BY) V hV
  have d0 : V.cell? ⟨w.heap.size + 1, 0, none⟩ = some (.int .i64 slot) := (cell_of_block hh).trans rfl
  have d1 : V.cell? ⟨w.heap.size + 1, 1, none⟩ = some (.int .i64 ballot) := (cell_of_block hh).trans rfl
  have d2 : V.cell? ⟨w.heap.size + 1, 2, none⟩ = some (.int .i64 kind) := (cell_of_block hh).trans rfl
  have d3 : V.cell? ⟨w.heap.size + 1, 3, none⟩ = some (.int .i64 client) := (cell_of_block hh).trans rfl
  have d4 : V.cell? ⟨w.heap.size + 1, 4, none⟩ = some (.int .i64 seq) := (cell_of_block hh).trans rfl
  have d5 : V.cell? ⟨w.heap.size + 1, 5, none⟩ = some (.string text) := (cell_of_block hh).trans rfl
  have d6 : V.cell? ⟨w.heap.size + 1, 6, none⟩ = some (.slice mo' n mcap) := (cell_of_block hh).trans rfl
  have d7 : V.cell? ⟨w.heap.size + 1, 7, none⟩ = some (.int .i64 dest) := (cell_of_block hh).trans rfl
  refine bodyPost_ret (v := .agg #[.int .i64 slot, .int .i64 ballot, .int .i64 kind, .int .i64 client, .int .i64 seq, .string text, .slice mo' n mcap, .int .i64 dest]) (by simp [results, Try.results26, go_sem, d0, d1, d2, d3, d4, d5, d6, d7]) rfl ⟨_, _, rfl, ?_, bV⟩
  exact (unhide OY).other kV (unhide Y1) (by decide)
end Go.Proofs.Ytijohafalcifpaa

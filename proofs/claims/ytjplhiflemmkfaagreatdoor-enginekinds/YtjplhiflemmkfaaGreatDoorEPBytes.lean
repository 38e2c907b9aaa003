/- paxos: what a fresh instance saves; Entry: contracts. paxos: report, bytes, Save of a fresh instance: contracts. -/
import Derived.Test.YtjplhiflemmkfaaGreatDoorERestor
import Derived.Test.YtjplhiflemmkfaaGreatDoorAaVAccept
namespace Go.Proofs.YtjplhiflemmkfaaGreatDoor
open Go.RowKit Go.Maps
attribute [local go_sem ↓] Go.wp_at_zero Go.wp_at_succ

theorem ac_fresh {w : World} {a q : Nat} (h1 : w.heap[a]? = some (.cells #[.int .i64 0, .map (some q)] 267 (0, 0))) (h2 : w.heap[q]? = some (.map #[] 0)) : Aa.Ac (fun k => k = a ∨ k = q) w a q 0 Aa.Vf.none 0 :=
  ⟨h1, ⟨.map [], ⟨#[], 0, h2, ⟨by simp, MapKept.stamped_empty 0, by simp⟩, Nat.le_refl _, rfl⟩, fun x => rfl, fun x b e hx => by cases hx⟩, ⟨Or.inl rfl, Or.inr rfl⟩, fun k hk => by rcases hk with rfl | rfl; exact heap_lt h1; exact heap_lt h2⟩
theorem pterm_fresh {l : Nat} {base : Int} {ms : List Int} (w : World) (h : PFresh w l ms base) : Calls Tryz.prog 184 #[.pointer (some ⟨l, 0, none⟩)] w fun e w' => e = .returned (.int .i64 0) ∧ w' = w := by
  obtain ⟨ao, cap, a, q, r, h1, _, _, _, _, h6, h7, _⟩ := h
  have c2 : w.cell? ⟨l, 2, none⟩ = some (.pointer (some ⟨a, 0, none⟩)) := (cell_of_block h1).trans rfl
  have CP := hide (Aa.promised_any w (ac_fresh h6 h7))
  clear h1 h6 h7
  go_enter Tryz.func184, Tryz.ntmps184
  go_wp2_with fail
  refine (unhide CP).mono ?_
  rintro e w1 ⟨rfl, rfl⟩
  go_wp2
  go_ret
  exact ⟨rfl, rfl⟩
theorem chain8 {y W : World} {b : Nat} {v0 v1 v2 v3 v4 v5 v6 v7 z0 z1 z2 z3 z4 z5 z6 z7 : Value} {T : TypeId} (hz : y.heap[b]? = some (.cells #[z0, z1, z2, z3, z4, z5, z6, z7] T (0, 0))) (hW : W = (((((((y.setCell ⟨b, 0, none⟩ (v0)).setCell ⟨b, 1, none⟩ (v1)).setCell ⟨b, 2, none⟩ (v2)).setCell ⟨b, 3, none⟩ (v3)).setCell ⟨b, 4, none⟩ (v4)).setCell ⟨b, 5, none⟩ (v5)).setCell ⟨b, 6, none⟩ (v6)).setCell ⟨b, 7, none⟩ (v7)) : W.heap[b]? = some (.cells #[v0, v1, v2, v3, v4, v5, v6, v7] T (0, 0)) ∧ ∀ (base : Nat) (a : World), Below base a y → base ≤ b → Below base a W := by
  subst hW
  have q0 : (y.setCell ⟨b, 0, none⟩ v0).heap[b]? = some (.cells #[v0, z1, z2, z3, z4, z5, z6, z7] T (0, 0)) := setCell_block hz
  have q1 : ((y.setCell ⟨b, 0, none⟩ v0).setCell ⟨b, 1, none⟩ v1).heap[b]? = some (.cells #[v0, v1, z2, z3, z4, z5, z6, z7] T (0, 0)) := setCell_block q0
  have q2 : (((y.setCell ⟨b, 0, none⟩ v0).setCell ⟨b, 1, none⟩ v1).setCell ⟨b, 2, none⟩ v2).heap[b]? = some (.cells #[v0, v1, v2, z3, z4, z5, z6, z7] T (0, 0)) := setCell_block q1
  have q3 : ((((y.setCell ⟨b, 0, none⟩ v0).setCell ⟨b, 1, none⟩ v1).setCell ⟨b, 2, none⟩ v2).setCell ⟨b, 3, none⟩ v3).heap[b]? = some (.cells #[v0, v1, v2, v3, z4, z5, z6, z7] T (0, 0)) := setCell_block q2
  have q4 : (((((y.setCell ⟨b, 0, none⟩ v0).setCell ⟨b, 1, none⟩ v1).setCell ⟨b, 2, none⟩ v2).setCell ⟨b, 3, none⟩ v3).setCell ⟨b, 4, none⟩ v4).heap[b]? = some (.cells #[v0, v1, v2, v3, v4, z5, z6, z7] T (0, 0)) := setCell_block q3
  have q5 : ((((((y.setCell ⟨b, 0, none⟩ v0).setCell ⟨b, 1, none⟩ v1).setCell ⟨b, 2, none⟩ v2).setCell ⟨b, 3, none⟩ v3).setCell ⟨b, 4, none⟩ v4).setCell ⟨b, 5, none⟩ v5).heap[b]? = some (.cells #[v0, v1, v2, v3, v4, v5, z6, z7] T (0, 0)) := setCell_block q4
  have q6 : (((((((y.setCell ⟨b, 0, none⟩ v0).setCell ⟨b, 1, none⟩ v1).setCell ⟨b, 2, none⟩ v2).setCell ⟨b, 3, none⟩ v3).setCell ⟨b, 4, none⟩ v4).setCell ⟨b, 5, none⟩ v5).setCell ⟨b, 6, none⟩ v6).heap[b]? = some (.cells #[v0, v1, v2, v3, v4, v5, v6, z7] T (0, 0)) := setCell_block q5
  have q7 : ((((((((y.setCell ⟨b, 0, none⟩ v0).setCell ⟨b, 1, none⟩ v1).setCell ⟨b, 2, none⟩ v2).setCell ⟨b, 3, none⟩ v3).setCell ⟨b, 4, none⟩ v4).setCell ⟨b, 5, none⟩ v5).setCell ⟨b, 6, none⟩ v6).setCell ⟨b, 7, none⟩ v7).heap[b]? = some (.cells #[v0, v1, v2, v3, v4, v5, v6, v7] T (0, 0)) := setCell_block q6
  exact ⟨q7, fun base a h hb => (((((((h.setCell (p := ⟨b, 0, none⟩) hb v0).setCell (p := ⟨b, 1, none⟩) hb v1).setCell (p := ⟨b, 2, none⟩) hb v2).setCell (p := ⟨b, 3, none⟩) hb v3).setCell (p := ⟨b, 4, none⟩) hb v4).setCell (p := ⟨b, 5, none⟩) hb v5).setCell (p := ⟨b, 6, none⟩) hb v6).setCell (p := ⟨b, 7, none⟩) hb v7⟩
theorem vrow_nil {T : TypeId} {low base : Nat} {w : World} {rv : Value} {vs : List Aa.Vt} (h : Aa.VRow T low base w rv vs) (hv : vs = []) : ∃ vo vc, rv = .slice vo 0 vc := by
  subst hv
  obtain ⟨xs, h1, _⟩ := h
  rcases h1.2 with ⟨e1, _⟩ | ⟨g, cap, cur, e1, _⟩
  · exact ⟨_, _, e1⟩
  · exact ⟨_, _, e1⟩
theorem told_nil (a : Int) : ∀ n, Aa.toldN Aa.Vf.none a n = []
  | 0 => rfl
  | n + 1 => by rw [Aa.told_step_none rfl, told_nil a n]
set_option maxRecDepth 20000 in
set_option maxHeartbeats 1000000 in
theorem popen_fresh {l : Nat} {base : Int} {ms : List Int} (w : World) (h : PFresh w l ms base) : Calls Tryz.prog 270 #[.pointer (some ⟨l, 0, none⟩)] w fun e w' => e = .returned (.tuple #[.agg #[.int .i64 0, .int .i64 0, .int .i64 0, .int .i64 0, .int .i64 0, .string ⟨#[]⟩, .slice none 0 0, .int .i64 0], .bool false]) ∧ Below w.heap.size w w' := by
  obtain ⟨W, hW⟩ : ∃ W, w.alloc (.cells #[.int .i64 0, .int .i64 0, .int .i64 0, .int .i64 0, .int .i64 0, .string ⟨#[]⟩, .slice none 0 0, .int .i64 0] 276) = W := ⟨_, rfl⟩
  have bW : Below w.heap.size w W := by rw [← hW]; exact (Below.refl _ w).alloc (Nat.le_refl _) _
  obtain ⟨B, hB⟩ : ∃ B, w.heap.size = B := ⟨_, rfl⟩
  have xW : W.heap[B]? = some (.cells #[.int .i64 0, .int .i64 0, .int .i64 0, .int .i64 0, .int .i64 0, .string ⟨#[]⟩, .slice none 0 0, .int .i64 0] 276 (0, 0)) := by rw [← hB, ← hW]; exact box_at _ _
  obtain ⟨ao, cap, a, q, r, h1, _, _, _, _, h6, h7, _⟩ := h.below bW
  have c2 : W.cell? ⟨l, 2, none⟩ = some (.pointer (some ⟨a, 0, none⟩)) := (cell_of_block h1).trans rfl
  have CV := hide (Aa.votes_any W (ac_fresh h6 h7))
  have HW := hide hW
  have HB := hide hB
  have BW := hide bW
  have XW := hide xW
  clear h1 h6 h7 hW hB bW xW h
  go_enter Tryz.func270, Tryz.ntmps270
  go_upto_region 1 with fail
  rw [unhide HW, unhide HB]
  clear HW
  go_wp2_with fail
  refine (unhide CV).mono ?_
  rintro e w1 ⟨rv, rfl, rr, b1⟩
  obtain ⟨vo, vc, rfl⟩ := vrow_nil rr (told_nil 1 64)
  have B1 := hide (below_far (unhide BW) b1)
  have x1 := Below.stay b1 (unhide XW)
  have q0 : w1.cell? ⟨B, 0, none⟩ = some (.int .i64 0) := (cell_of_block x1).trans rfl
  have q1 : w1.cell? ⟨B, 1, none⟩ = some (.int .i64 0) := (cell_of_block x1).trans rfl
  have q2 : w1.cell? ⟨B, 2, none⟩ = some (.int .i64 0) := (cell_of_block x1).trans rfl
  have q3 : w1.cell? ⟨B, 3, none⟩ = some (.int .i64 0) := (cell_of_block x1).trans rfl
  have q4 : w1.cell? ⟨B, 4, none⟩ = some (.int .i64 0) := (cell_of_block x1).trans rfl
  have q5 : w1.cell? ⟨B, 5, none⟩ = some (.string ⟨#[]⟩) := (cell_of_block x1).trans rfl
  have q6 : w1.cell? ⟨B, 6, none⟩ = some (.slice none 0 0) := (cell_of_block x1).trans rfl
  have q7 : w1.cell? ⟨B, 7, none⟩ = some (.int .i64 0) := (cell_of_block x1).trans rfl
  have fz : ∀ i, w1.frozen? ⟨B, i, none⟩ = false := fun i => free_of_block x1
  have X1 := hide x1
  clear CV rr b1 BW XW x1
  go_wp2
  go_loopw [12] (fun i wr => i = .int .i64 0 ∧ wr = w1) (fun _ _ => 0)
  case atStart => exact ⟨rfl, rfl⟩
  case round =>
    obtain ⟨rfl, rfl⟩ := hrel
    go_wp2
    obtain ⟨w2, hw2⟩ : ∃ w2, w2 = (((((((wr.setCell ⟨B, 0, none⟩ (.int .i64 0)).setCell ⟨B, 1, none⟩ (.int .i64 0)).setCell ⟨B, 2, none⟩ (.int .i64 0)).setCell ⟨B, 3, none⟩ (.int .i64 0)).setCell ⟨B, 4, none⟩ (.int .i64 0)).setCell ⟨B, 5, none⟩ (.string ⟨#[]⟩)).setCell ⟨B, 6, none⟩ (.slice none 0 0)).setCell ⟨B, 7, none⟩ (.int .i64 0) := ⟨_, rfl⟩
    rw [← hw2]
    obtain ⟨x2, k2⟩ := chain8 (unhide X1) hw2
    have r0 : w2.cell? ⟨B, 0, none⟩ = some (.int .i64 0) := (cell_of_block x2).trans rfl
    have r1 : w2.cell? ⟨B, 1, none⟩ = some (.int .i64 0) := (cell_of_block x2).trans rfl
    have r2 : w2.cell? ⟨B, 2, none⟩ = some (.int .i64 0) := (cell_of_block x2).trans rfl
    have r3 : w2.cell? ⟨B, 3, none⟩ = some (.int .i64 0) := (cell_of_block x2).trans rfl
    have r4 : w2.cell? ⟨B, 4, none⟩ = some (.int .i64 0) := (cell_of_block x2).trans rfl
    have r5 : w2.cell? ⟨B, 5, none⟩ = some (.string ⟨#[]⟩) := (cell_of_block x2).trans rfl
    have r6 : w2.cell? ⟨B, 6, none⟩ = some (.slice none 0 0) := (cell_of_block x2).trans rfl
    have r7 : w2.cell? ⟨B, 7, none⟩ = some (.int .i64 0) := (cell_of_block x2).trans rfl
    refine bodyPost_ret (v := .tuple #[.agg #[.int .i64 0, .int .i64 0, .int .i64 0, .int .i64 0, .int .i64 0, .string ⟨#[]⟩, .slice none 0 0, .int .i64 0], .bool false]) (by simp [results, Tryz.results270, go_sem, r0, r1, r2, r3, r4, r5, r6, r7]) rfl ⟨rfl, k2 _ _ (unhide B1) (by rw [unhide HB]; exact Nat.le_refl _)⟩
end Go.Proofs.YtjplhiflemmkfaaGreatDoor
namespace Go.Proofs.YtjplhiflemmkfaaGreatDoor
open Go.RowKit Go.Maps

set_option maxRecDepth 20000 in
set_option maxHeartbeats 2000000 in
theorem preport_fresh {l : Nat} {base : Int} {ms : List Int} (hb0 : 0 ≤ base) (hb1 : base ≤ 64) (w : World) (h : PFresh w l ms base) : Calls Tryz.prog 226 #[.pointer (some ⟨l, 0, none⟩), .int .i64 base] w fun e w' => e = .returned (.agg #[.int .i64 0, .int .i64 0, .int .i64 0, .int .i64 0, .int .i64 0, .int .i64 base, .int .i64 0, .int .i64 base, .bool false, .slice none 0 0, .slice none 0 0, .slice none 0 0, .slice none 0 0]) ∧ Below w.heap.size w w' := by
  obtain ⟨W, hW⟩ : ∃ W, w.alloc (.cells #[.int .i64 0, .int .i64 0, .int .i64 0, .int .i64 0, .int .i64 0, .int .i64 0, .int .i64 0, .int .i64 0, .bool false, .slice none 0 0, .slice none 0 0, .slice none 0 0, .slice none 0 0] 50) = W := ⟨_, rfl⟩
  have bW : Below w.heap.size w W := by rw [← hW]; exact (Below.refl _ w).alloc (Nat.le_refl _) _
  obtain ⟨B, hB⟩ : ∃ B, w.heap.size = B := ⟨_, rfl⟩
  have xW : W.heap[B]? = some (.cells #[.int .i64 0, .int .i64 0, .int .i64 0, .int .i64 0, .int .i64 0, .int .i64 0, .int .i64 0, .int .i64 0, .bool false, .slice none 0 0, .slice none 0 0, .slice none 0 0, .slice none 0 0] 50 (0, 0)) := by rw [← hB, ← hW]; exact box_at _ _
  have hw1 : IntKind.i64.wrap (base + 1) = base + 1 := IntWalk.i64_in _ (by omega)
  have H := h.below bW
  obtain ⟨ao, cap, a, q, r, h1, _⟩ := id H
  have c1 : W.cell? ⟨l, 1, none⟩ = some (.int .i64 base) := (cell_of_block h1).trans rfl
  have CT := hide (pterm_fresh W H)
  have CC := hide (commitL_fresh hb0 hb1 W H)
  have HH := hide H
  have HW := hide hW
  have HB := hide hB
  have BW := hide bW
  have XW := hide xW
  clear h1 hW hB bW xW h H
  go_enter Tryz.func226, Tryz.ntmps226
  go_upto_region 1 with fail
  rw [unhide HW, unhide HB]
  clear HW
  go_upto_region 2 with fail
  go_wp2_with fail
  refine (unhide CT).mono ?_
  rintro e w1 ⟨rfl, rfl⟩
  go_wp2_with fail
  refine (unhide CC).mono ?_
  rintro e w2 ⟨rfl, b2⟩
  go_upto_region 3 with fail
  obtain ⟨M, hM⟩ : ∃ M, w2.heap.size = M := ⟨_, rfl⟩
  obtain ⟨w3, hw3⟩ : ∃ w3, w2.alloc (.cells #[.int .i64 0, .int .i64 0, .int .i64 0, .int .i64 0, .int .i64 0, .int .i64 base, .int .i64 0, .int .i64 base, .bool false, .slice none 0 0, .slice none 0 0, .slice none 0 0, .slice none 0 0] 50) = w3 := ⟨_, rfl⟩
  have x3 : w3.heap[M]? = some (.cells #[.int .i64 0, .int .i64 0, .int .i64 0, .int .i64 0, .int .i64 0, .int .i64 base, .int .i64 0, .int .i64 base, .bool false, .slice none 0 0, .slice none 0 0, .slice none 0 0, .slice none 0 0] 50 (0, 0)) := by rw [← hM, ← hw3]; exact box_at _ _
  have b3 : Below w2.heap.size w2 w3 := by rw [← hw3]; exact (Below.refl _ w2).alloc (Nat.le_refl _) _
  rw [hw3, hM]
  have b13 := below_far b2 b3
  have xb := Below.stay b13 (unhide XW)
  have B3 := hide (below_far (unhide BW) b13)
  have CO := hide (popen_fresh w3 ((unhide HH).below b13))
  have X3 := hide (And.intro x3 xb)
  have m7 : w3.cell? ⟨M, 7, none⟩ = some (.int .i64 base) := (cell_of_block x3).trans rfl
  clear CT CC hw3 hM x3 xb b2 b3 b13 BW XW HH c1
  go_wp2
  go_loopw [6] (fun i wr => i = .int .i64 (base + 1) ∧ wr = w3) (fun _ _ => 0)
  case atStart => exact ⟨rfl, rfl⟩
  case round =>
    obtain ⟨rfl, rfl⟩ := hrel
    go_wp2_with fail
    refine (unhide CO).mono ?_
    rintro e w4 ⟨rfl, b4⟩
    have b45 : Below wr.heap.size wr (w4.alloc (.cells #[.int .i64 0, .int .i64 0, .int .i64 0, .int .i64 0, .int .i64 0, .string ⟨#[]⟩, .slice none 0 0, .int .i64 0] 276)) := b4.alloc b4.size _
    have X5 := hide (And.intro (Below.stay b45 (unhide X3).1) (Below.stay b45 (unhide X3).2))
    have B5 := hide (below_far (unhide B3) b45)
    clear X3 B3 CO b4 m7
    go_upto_region 12 with fail
    obtain ⟨w5, hw5⟩ : ∃ w5, w4.alloc (.cells #[.int .i64 0, .int .i64 0, .int .i64 0, .int .i64 0, .int .i64 0, .string ⟨#[]⟩, .slice none 0 0, .int .i64 0] 276) = w5 := ⟨_, rfl⟩
    rw [hw5]
    rw [hw5] at X5 B5
    clear hw5 b45
    obtain ⟨q0, q1, q2, q3, q4, q5, q6, q7, q8, q9, q10, q11, q12⟩ := mbox13 (unhide X5).1
    obtain ⟨p0, p1, p2, p3, p4, p5, p6, p7, p8, p9, p10, p11, p12⟩ := mbox13 (unhide X5).2
    have fz : ∀ i, w5.frozen? ⟨B, i, none⟩ = false := fun i => free_of_block (unhide X5).2
    go_wp2
    obtain ⟨w6, hw6⟩ : ∃ w6, w6 = ((((((((((((w5.setCell ⟨B, 0, none⟩ (.int .i64 0)).setCell ⟨B, 1, none⟩ (.int .i64 0)).setCell ⟨B, 2, none⟩ (.int .i64 0)).setCell ⟨B, 3, none⟩ (.int .i64 0)).setCell ⟨B, 4, none⟩ (.int .i64 0)).setCell ⟨B, 5, none⟩ (.int .i64 base)).setCell ⟨B, 6, none⟩ (.int .i64 0)).setCell ⟨B, 7, none⟩ (.int .i64 base)).setCell ⟨B, 8, none⟩ (.bool false)).setCell ⟨B, 9, none⟩ (.slice none 0 0)).setCell ⟨B, 10, none⟩ (.slice none 0 0)).setCell ⟨B, 11, none⟩ (.slice none 0 0)).setCell ⟨B, 12, none⟩ (.slice none 0 0) := ⟨_, rfl⟩
    rw [← hw6]
    obtain ⟨x6, k6⟩ := chain13 (unhide X5).2 hw6
    obtain ⟨r0, r1, r2, r3, r4, r5, r6, r7, r8, r9, r10, r11, r12⟩ := mbox13 x6
    have hbB : w.heap.size ≤ B := by rw [unhide HB]; exact Nat.le_refl _
    refine bodyPost_ret (v := .agg #[.int .i64 0, .int .i64 0, .int .i64 0, .int .i64 0, .int .i64 0, .int .i64 base, .int .i64 0, .int .i64 base, .bool false, .slice none 0 0, .slice none 0 0, .slice none 0 0, .slice none 0 0]) (by simp [results, Tryz.results226, go_sem, r0, r1, r2, r3, r4, r5, r6, r7, r8, r9, r10, r11, r12]) rfl ⟨rfl, (unhide B5).trans (k6.1.mono hbB)⟩

/-- the message as which a fresh instance lasts. -/
def psaid (base : Int) (ms : List Int) : Mg := ⟨0, 0, 0, 0, 0, base, 0, base, false, [], [], [], ms⟩
theorem psaid64 {id base : Int} {ms : List Int} (h : Core0 id base ms) : (psaid base ms).packed.in64 := by
  have := h.b0
  have := h.b1
  exact ⟨in64_small (x := 0) (by decide) (by decide), in64_small (x := 0) (by decide) (by decide), in64_small (x := 0) (by decide) (by decide), in64_small (x := 15) (by decide) (by decide), in64_small (x := 0) (by decide) (by decide), in64_small (x := base) (by omega) (by omega), in64_small (x := 0) (by decide) (by decide), in64_small (x := base) (by omega) (by omega), (fun y hy => by cases hy), (fun e he => by cases he), (fun y hy => by cases hy), ms64 h⟩
set_option maxRecDepth 20000 in
set_option maxHeartbeats 2000000 in
theorem pbytes_fresh {l : Nat} {base : Int} {ms : List Int} (hb0 : 0 ≤ base) (hb1 : base ≤ 64) (hl : ms.length ≤ 9) (w : World) (h : PFresh w l ms base) (hS : Start w) : Calls Tryz.prog 157 #[.pointer (some ⟨l, 0, none⟩)] w fun e w' => ∃ v, e = .returned v ∧ Own w.heap.size w' v (frame (psaid base ms).packed.bytes) ∧ Below w.heap.size w w' := by
  obtain ⟨ao, cap, a, q, r, h1, h2, _⟩ := id h
  have c1 : w.cell? ⟨l, 1, none⟩ = some (.int .i64 base) := (cell_of_block h1).trans rfl
  have CR := hide (preport_fresh hb0 hb1 w h)
  have H1 := hide (And.intro h1 h2)
  have HS := hide hS
  clear h1 h2 h hS
  go_enter Tryz.func157, Tryz.ntmps157
  go_wp2_with fail
  refine (unhide CR).mono ?_
  rintro e w1 ⟨rfl, b1⟩
  go_upto_region 2 with fail
  obtain ⟨M, hM⟩ : ∃ M, w1.heap.size = M := ⟨_, rfl⟩
  obtain ⟨w2, hw2⟩ : ∃ w2, w1.alloc (.cells #[.int .i64 0, .int .i64 0, .int .i64 0, .int .i64 0, .int .i64 0, .int .i64 base, .int .i64 0, .int .i64 base, .bool false, .slice none 0 0, .slice none 0 0, .slice none 0 0, .slice none 0 0] 50) = w2 := ⟨_, rfl⟩
  have x2 : w2.heap[M]? = some (.cells #[.int .i64 0, .int .i64 0, .int .i64 0, .int .i64 0, .int .i64 0, .int .i64 base, .int .i64 0, .int .i64 base, .bool false, .slice none 0 0, .slice none 0 0, .slice none 0 0, .slice none 0 0] 50 (0, 0)) := by rw [← hM, ← hw2]; exact box_at _ _
  have b2 : Below w1.heap.size w1 w2 := by rw [← hw2]; exact (Below.refl _ w1).alloc (Nat.le_refl _) _
  rw [hw2, hM]
  have b02 := below_far b1 b2
  have hwM : w.heap.size ≤ M := by rw [← hM]; exact b1.size
  have l0 : w2.cell? ⟨l, 0, none⟩ = some (.slice ao ms.length cap) := (cell_of_block (Below.stay b02 (unhide H1).1)).trans rfl
  have m12 : w2.cell? ⟨M, 12, none⟩ = some (.slice none 0 0) := (cell_of_block x2).trans rfl
  have f12 : w2.frozen? ⟨M, 12, none⟩ = false := free_of_block x2
  have X2 := hide x2
  have B2 := hide b02
  have HM := hide hwM
  clear hw2 hM x2 b1 b2 b02 CR c1 hwM
  go_upto_region 3 with fail
  obtain ⟨w3, hw3⟩ : ∃ w3, w2.setCell ⟨M, 12, none⟩ (.slice ao ms.length cap) = w3 := ⟨_, rfl⟩
  have x3 : w3.heap[M]? = some (.cells #[.int .i64 0, .int .i64 0, .int .i64 0, .int .i64 0, .int .i64 0, .int .i64 base, .int .i64 0, .int .i64 base, .bool false, .slice none 0 0, .slice none 0 0, .slice none 0 0, .slice ao ms.length cap] 50 (0, 0)) := by rw [← hw3]; exact setCell_block (unhide X2)
  have b3 : Below w.heap.size w w3 := by rw [← hw3]; exact (unhide B2).setCell (p := ⟨M, 12, none⟩) (unhide HM) _
  rw [hw3]
  obtain ⟨q0, q1, q2, q3, q4, q5, q6, q7, q8, q9, q10, q11, q12⟩ := mbox13 x3
  have CP := hide (pack_any (psaid base ms) none none none ao 0 0 0 cap w3 (IntsR.nil _ _) (EntsAt.none' _ _) (IntsR.nil _ _) ((unhide H1).2.below b3) (packed_ok (Nat.zero_le _) rfl (Nat.zero_le _) hl) ((unhide HS).below b3))
  have B3 := hide b3
  clear hw3 x3 b3 l0 m12 f12 X2 B2 HM H1 HS
  go_wp2_with fail
  refine (unhide CP).mono ?_
  rintro e w4 ⟨v, rfl, o4, b4⟩
  have R := hide (And.intro (o4.rebase (unhide B3).size) (below_far (unhide B3) b4))
  clear CP o4 b4 q0 q1 q2 q3 q4 q5 q6 q7 q8 q9 q10 q11 q12
  go_wp2
  go_ret
  exact ⟨_, rfl, (unhide R).1, (unhide R).2⟩
theorem psave_fresh {c : Nat} {id base : Int} {ms : List Int} (hb0 : 0 ≤ base) (hb1 : base ≤ 64) (hl : ms.length ≤ 9) (w : World) (h : PNew w c id ms base) (hS : Start w) : Calls Tryz.prog 87 #[.pointer (some ⟨c, 0, none⟩)] w fun e w' => ∃ v, e = .returned v ∧ Own w.heap.size w' v (frame (psaid base ms).packed.bytes) ∧ Below w.heap.size w w' := by
  obtain ⟨l, k, h1, h2, _⟩ := h
  have c0 : w.cell? ⟨c, 0, none⟩ = some (.pointer (some ⟨l, 0, none⟩)) := (cell_of_block h1).trans rfl
  have CB := hide (pbytes_fresh hb0 hb1 hl w h2 hS)
  clear h1 h2
  go_enter Tryz.func87, Tryz.ntmps87
  go_wp2_with fail
  refine (unhide CB).mono ?_
  rintro e w1 ⟨v, rfl, o1, b1⟩
  have R := hide (And.intro o1 b1)
  clear CB o1 b1
  go_wp2
  go_ret
  exact ⟨_, rfl, (unhide R).1, (unhide R).2⟩
end Go.Proofs.YtjplhiflemmkfaaGreatDoor

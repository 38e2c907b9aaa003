/- paxos.restored: a contract. core.Twin of no entry; paxos: Entry of a fresh instance, Load of what one saved: contracts. paxos: Entry of a fresh instance, Load of what one saved: contracts. -/
import Derived.Test.YtjplhiflemmkfaaGreatDoorEPBytes
namespace Go.Proofs.YtjplhiflemmkfaaGreatDoor
open Go.RowKit Go.Maps

section
variable (base : Int) (aot aoe aoo aon : Option Addr) (ct ce co cn n : Nat)
set_option maxRecDepth 20000 in
set_option maxHeartbeats 1000000 in
theorem plearn_none (l : Nat) (w : World) : Calls Tryz.prog 249 #[.pointer (some ⟨l, 0, none⟩), .agg #[.int .i64 0, .int .i64 0, .int .i64 0, .int .i64 15, .int .i64 0, .int .i64 base, .int .i64 0, .int .i64 base, .bool false, .slice aot 0 ct, .slice aoe 0 ce, .slice aoo 0 co, .slice aon n cn]] w fun e w' => e = .returned undef ∧ Below w.heap.size w w' := by
  obtain ⟨W, hW⟩ : ∃ W, w.alloc (.cells #[.int .i64 0, .int .i64 0, .int .i64 0, .int .i64 15, .int .i64 0, .int .i64 base, .int .i64 0, .int .i64 base, .bool false, .slice aot 0 ct, .slice aoe 0 ce, .slice aoo 0 co, .slice aon n cn] 50) = W := ⟨_, rfl⟩
  have bW : Below w.heap.size w W := by rw [← hW]; exact (Below.refl _ w).alloc (Nat.le_refl _) _
  obtain ⟨B, hB⟩ : ∃ B, w.heap.size = B := ⟨_, rfl⟩
  have xW : W.heap[B]? = some (.cells #[.int .i64 0, .int .i64 0, .int .i64 0, .int .i64 15, .int .i64 0, .int .i64 base, .int .i64 0, .int .i64 base, .bool false, .slice aot 0 ct, .slice aoe 0 ce, .slice aoo 0 co, .slice aon n cn] 50 (0, 0)) := by rw [← hB, ← hW]; exact box_at _ _
  have c10 : W.cell? ⟨B, 10, none⟩ = some (.slice aoe 0 ce) := (cell_of_block xW).trans rfl
  have HW := hide hW
  have HB := hide hB
  have BW := hide bW
  clear hW hB bW xW
  go_enter Tryz.func249, Tryz.ntmps249
  go_upto_region 1 with fail
  rw [unhide HW, unhide HB]
  clear HW
  go_wp2
  go_loopw [10] (fun i wr => i = .int .i64 0 ∧ wr = W) (fun _ _ => 0)
  case atStart => exact ⟨rfl, rfl⟩
  case round =>
    obtain ⟨rfl, rfl⟩ := hrel
    go_wp2
    go_end0
    exact ⟨rfl, unhide BW⟩
set_option maxRecDepth 20000 in
set_option maxHeartbeats 1000000 in
theorem voteOf_none (_hb0 : 0 ≤ base) (_hb1 : base ≤ 64) (w : World) : Calls Tryz.prog 250 #[.agg #[.int .i64 0, .int .i64 0, .int .i64 0, .int .i64 15, .int .i64 0, .int .i64 base, .int .i64 0, .int .i64 base, .bool false, .slice aot 0 ct, .slice aoe 0 ce, .slice aoo 0 co, .slice aon n cn]] w fun e w' => e = .returned (.tuple #[.agg #[.int .i64 0, .int .i64 0, .int .i64 0, .int .i64 0, .int .i64 0, .string ⟨#[]⟩, .slice none 0 0, .int .i64 0], .bool false]) ∧ Below w.heap.size w w' := by
  obtain ⟨W, hW⟩ : ∃ W, (w.alloc (.cells #[.int .i64 0, .int .i64 0, .int .i64 0, .int .i64 15, .int .i64 0, .int .i64 base, .int .i64 0, .int .i64 base, .bool false, .slice aot 0 ct, .slice aoe 0 ce, .slice aoo 0 co, .slice aon n cn] 50)).alloc (.cells #[.int .i64 0, .int .i64 0, .int .i64 0, .int .i64 0, .int .i64 0, .string ⟨#[]⟩, .slice none 0 0, .int .i64 0] 276) = W := ⟨_, rfl⟩
  obtain ⟨B, hB⟩ : ∃ B, w.heap.size = B := ⟨_, rfl⟩
  have s1 : (w.alloc (.cells #[.int .i64 0, .int .i64 0, .int .i64 0, .int .i64 15, .int .i64 0, .int .i64 base, .int .i64 0, .int .i64 base, .bool false, .slice aot 0 ct, .slice aoe 0 ce, .slice aoo 0 co, .slice aon n cn] 50)).heap.size = B + 1 := by rw [World.size_alloc, hB]
  have x1 : W.heap[B + 1]? = some (.cells #[.int .i64 0, .int .i64 0, .int .i64 0, .int .i64 0, .int .i64 0, .string ⟨#[]⟩, .slice none 0 0, .int .i64 0] 276 (0, 0)) := by rw [← hW, ← s1]; exact box_at _ _
  have x0 : W.heap[B]? = some (.cells #[.int .i64 0, .int .i64 0, .int .i64 0, .int .i64 15, .int .i64 0, .int .i64 base, .int .i64 0, .int .i64 base, .bool false, .slice aot 0 ct, .slice aoe 0 ce, .slice aoo 0 co, .slice aon n cn] 50 (0, 0)) := by rw [← hW]; exact (Below.heap_alloc _ _ _ (by omega)).trans (by rw [← hB]; exact box_at _ _)
  have bW : Below w.heap.size w W := by rw [← hW]; exact ((Below.refl _ w).alloc (Nat.le_refl _) _).alloc (by rw [s1]; omega) _
  have c7 : W.cell? ⟨B, 7, none⟩ = some (.int .i64 base) := (cell_of_block x0).trans rfl
  have c5 : W.cell? ⟨B, 5, none⟩ = some (.int .i64 base) := (cell_of_block x0).trans rfl
  have c9 : W.cell? ⟨B, 9, none⟩ = some (.slice aot 0 ct) := (cell_of_block x0).trans rfl
  have z0 : W.cell? ⟨B + 1, 0, none⟩ = some (.int .i64 0) := (cell_of_block x1).trans rfl
  have z1 : W.cell? ⟨B + 1, 1, none⟩ = some (.int .i64 0) := (cell_of_block x1).trans rfl
  have z2 : W.cell? ⟨B + 1, 2, none⟩ = some (.int .i64 0) := (cell_of_block x1).trans rfl
  have z3 : W.cell? ⟨B + 1, 3, none⟩ = some (.int .i64 0) := (cell_of_block x1).trans rfl
  have z4 : W.cell? ⟨B + 1, 4, none⟩ = some (.int .i64 0) := (cell_of_block x1).trans rfl
  have z5 : W.cell? ⟨B + 1, 5, none⟩ = some (.string ⟨#[]⟩) := (cell_of_block x1).trans rfl
  have z6 : W.cell? ⟨B + 1, 6, none⟩ = some (.slice none 0 0) := (cell_of_block x1).trans rfl
  have z7 : W.cell? ⟨B + 1, 7, none⟩ = some (.int .i64 0) := (cell_of_block x1).trans rfl
  have fz : ∀ i, W.frozen? ⟨B + 1, i, none⟩ = false := fun i => free_of_block x1
  have HW := hide hW
  have HB := hide hB
  have BW := hide bW
  have X1 := hide x1
  clear hW hB bW x0 x1 s1
  go_enter Tryz.func250, Tryz.ntmps250
  go_upto_region 1 with fail
  rw [unhide HW, unhide HB]
  clear HW
  go_wp2
  obtain ⟨w2, hw2⟩ : ∃ w2, w2 = (((((((W.setCell ⟨B + 1, 0, none⟩ (.int .i64 0)).setCell ⟨B + 1, 1, none⟩ (.int .i64 0)).setCell ⟨B + 1, 2, none⟩ (.int .i64 0)).setCell ⟨B + 1, 3, none⟩ (.int .i64 0)).setCell ⟨B + 1, 4, none⟩ (.int .i64 0)).setCell ⟨B + 1, 5, none⟩ (.string ⟨#[]⟩)).setCell ⟨B + 1, 6, none⟩ (.slice none 0 0)).setCell ⟨B + 1, 7, none⟩ (.int .i64 0) := ⟨_, rfl⟩
  rw [← hw2]
  obtain ⟨x2, k2⟩ := chain8 (unhide X1) hw2
  have r0 : w2.cell? ⟨B + 1, 0, none⟩ = some (.int .i64 0) := (cell_of_block x2).trans rfl
  have r1 : w2.cell? ⟨B + 1, 1, none⟩ = some (.int .i64 0) := (cell_of_block x2).trans rfl
  have r2 : w2.cell? ⟨B + 1, 2, none⟩ = some (.int .i64 0) := (cell_of_block x2).trans rfl
  have r3 : w2.cell? ⟨B + 1, 3, none⟩ = some (.int .i64 0) := (cell_of_block x2).trans rfl
  have r4 : w2.cell? ⟨B + 1, 4, none⟩ = some (.int .i64 0) := (cell_of_block x2).trans rfl
  have r5 : w2.cell? ⟨B + 1, 5, none⟩ = some (.string ⟨#[]⟩) := (cell_of_block x2).trans rfl
  have r6 : w2.cell? ⟨B + 1, 6, none⟩ = some (.slice none 0 0) := (cell_of_block x2).trans rfl
  have r7 : w2.cell? ⟨B + 1, 7, none⟩ = some (.int .i64 0) := (cell_of_block x2).trans rfl
  refine bodyPost_ret (v := .tuple #[.agg #[.int .i64 0, .int .i64 0, .int .i64 0, .int .i64 0, .int .i64 0, .string ⟨#[]⟩, .slice none 0 0, .int .i64 0], .bool false]) (by simp [results, Tryz.results250, go_sem, r0, r1, r2, r3, r4, r5, r6, r7]) rfl ⟨rfl, k2 _ _ (unhide BW) (by rw [unhide HB]; exact Nat.le_succ _)⟩
end
theorem pledge_zero {l : Nat} {base : Int} {ms : List Int} (hb0 : 0 ≤ base) (hb1 : base ≤ 64) (w : World) (h : PFresh w l ms base) : Calls Tryz.prog 248 #[.pointer (some ⟨l, 0, none⟩), .int .i64 0] w fun e w' => e = .returned undef ∧ Below w.heap.size w w' := by
  obtain ⟨ao, cap, a, q, r, h1, _, _, _, _, h6, h7, _⟩ := id h
  have f2 : ∀ s : Bel w, s.w.cell? ⟨l, 2, none⟩ = some (.pointer (some ⟨a, 0, none⟩)) := fun s => s.cell ((cell_of_block h1).trans rfl)
  have CM := hide (fun s : Bel w => s.call (commitL_fresh hb0 hb1 s.w (h.below s.b)))
  have CP := hide (fun s : Bel w => s.call (Aa.prepare_no s.w 0 (base + 1) (ac_fresh (Below.stay s.b h6) (Below.stay s.b h7)) (by decide)))
  have hw1 : IntKind.i64.wrap (base + 1) = base + 1 := IntWalk.i64_in _ (by omega)
  clear h1 h6 h7 h
  go_enter Tryz.func248, Tryz.ntmps248
  go_upto_region 0 with fail
  have nebel := Bel.ne w
  refine quiet_bel (by kernel_rfl) (by kernel_rfl) ?_
  repeat (go_big_quiet_step (first | exact unhide CM _ | exact unhide CP _ | fail))
  refine wpQuiet_nil ?_
  intro wq hwq
  have bq := Bel.of hwq
  clear hwq nebel
  go_wp2
  go_end0
  exact ⟨rfl, bq⟩
set_option maxRecDepth 20000 in
set_option maxHeartbeats 2000000 in
theorem prestored_fresh (base : Int) (ms : List Int) (hb0 : 0 ≤ base) (hb1 : base ≤ 64) (hl : ms.length ≤ 1000000) (aot aoe aoo aon : Option Addr) (ct ce co cn n : Nat) (hn : ms.length = n) (w : World) (hm : Mbrs w aon cn ms) :
    Calls Tryz.prog 269 #[.agg #[.int .i64 0, .int .i64 0, .int .i64 0, .int .i64 15, .int .i64 0, .int .i64 base, .int .i64 0, .int .i64 base, .bool false, .slice aot 0 ct, .slice aoe 0 ce, .slice aoo 0 co, .slice aon n cn]] w fun e w' => ∃ l, e = .returned (.tuple #[.pointer (some ⟨l, 0, none⟩), .int .i64 0]) ∧ PFresh w' l ms base ∧ Below w.heap.size w w' := by
  obtain ⟨W, hW⟩ : ∃ W, w.alloc (.cells #[.int .i64 0, .int .i64 0, .int .i64 0, .int .i64 15, .int .i64 0, .int .i64 base, .int .i64 0, .int .i64 base, .bool false, .slice aot 0 ct, .slice aoe 0 ce, .slice aoo 0 co, .slice aon n cn] 50) = W := ⟨_, rfl⟩
  have bW : Below w.heap.size w W := by rw [← hW]; exact (Below.refl _ w).alloc (Nat.le_refl _) _
  obtain ⟨B, hB⟩ : ∃ B, w.heap.size = B := ⟨_, rfl⟩
  have xW : W.heap[B]? = some (.cells #[.int .i64 0, .int .i64 0, .int .i64 0, .int .i64 15, .int .i64 0, .int .i64 base, .int .i64 0, .int .i64 base, .bool false, .slice aot 0 ct, .slice aoe 0 ce, .slice aoo 0 co, .slice aon n cn] 50 (0, 0)) := by rw [← hB, ← hW]; exact box_at _ _
  obtain ⟨q0, q1, q2, q3, q4, q5, q6, q7, q8, q9, q10, q11, q12⟩ := mbox13 xW
  have FR := hide (fresh_any aon n cn ms hn (by omega) base W (hm.below bW).fr.1)
  have HW := hide hW
  have HB := hide hB
  have BW := hide bW
  have XW := hide xW
  clear hW hB bW xW hm
  go_enter Tryz.func269, Tryz.ntmps269
  go_upto_region 1 with fail
  rw [unhide HW, unhide HB]
  clear HW
  go_wp2_with fail
  refine (unhide FR).mono ?_
  rintro e w1 ⟨l, rfl, p1, _, b1⟩
  have P1 := hide p1
  have X1 := hide (Below.stay b1 (unhide XW))
  have B1 := hide (below_far (unhide BW) b1)
  have CL := hide (plearn_none base aot aoe aoo aon ct ce co cn n l w1)
  clear q0 q1 q2 q3 q4 q5 q6 q7 q8 q9 q10 q11 q12 FR p1 b1 BW XW
  obtain ⟨q0, q1, q2, q3, q4, q5, q6, q7, q8, q9, q10, q11, q12⟩ := mbox13 (unhide X1)
  go_wp2_with fail
  refine (unhide CL).mono ?_
  rintro e w2 ⟨rfl, b2⟩
  have P2 := hide ((unhide P1).below b2)
  have X2 := hide (Below.stay b2 (unhide X1))
  have B2 := hide (below_far (unhide B1) b2)
  have CV := hide (voteOf_none base aot aoe aoo aon ct ce co cn n hb0 hb1 w2)
  clear q0 q1 q2 q3 q4 q5 q6 q7 q8 q9 q10 q11 q12 CL P1 b2 B1 X1
  obtain ⟨q0, q1, q2, q3, q4, q5, q6, q7, q8, q9, q10, q11, q12⟩ := mbox13 (unhide X2)
  go_wp2_with fail
  refine (unhide CV).mono ?_
  rintro e w3 ⟨rfl, b3⟩
  go_upto_region 8 with fail
  obtain ⟨w4, hw4⟩ : ∃ w4, w3.alloc (.cells #[.int .i64 0, .int .i64 0, .int .i64 0, .int .i64 0, .int .i64 0, .string ⟨#[]⟩, .slice none 0 0, .int .i64 0] 276) = w4 := ⟨_, rfl⟩
  have b4 : Below w2.heap.size w2 w4 := by rw [← hw4]; exact b3.alloc b3.size _
  rw [hw4]
  have P4 := hide ((unhide P2).below b4)
  have B4 := hide (below_far (unhide B2) b4)
  have x4 := Below.stay b4 (unhide X2)
  have CP := hide (pledge_zero hb0 hb1 w4 (unhide P4))
  clear q0 q1 q2 q3 q4 q5 q6 q7 q8 q9 q10 q11 q12 CV P2 b3 b4 B2 X2 hw4
  have q4 : w4.cell? ⟨B, 4, none⟩ = some (.int .i64 0) := (cell_of_block x4).trans rfl
  clear x4
  go_wp2_with fail
  refine (unhide CP).mono ?_
  rintro e w5 ⟨rfl, b5⟩
  have R := hide (And.intro ((unhide P4).below b5) (below_far (unhide B4) b5))
  clear CP b5 P4 B4 q4
  go_wp2
  go_ret2
  exact ⟨l, rfl, (unhide R).1, (unhide R).2⟩
end Go.Proofs.YtjplhiflemmkfaaGreatDoor
namespace Go.Proofs.YtjplhiflemmkfaaGreatDoor
open Go.RowKit Go.Maps

theorem chain6' {y W : World} {b : Nat} {v0 v1 v2 v3 v4 v5 z0 z1 z2 z3 z4 z5 : Value} {T : TypeId} (hz : y.heap[b]? = some (.cells #[z0, z1, z2, z3, z4, z5] T (0, 0))) (hW : W = (((((y.setCell ⟨b, 0, none⟩ v0).setCell ⟨b, 1, none⟩ v1).setCell ⟨b, 2, none⟩ v2).setCell ⟨b, 3, none⟩ v3).setCell ⟨b, 4, none⟩ v4).setCell ⟨b, 5, none⟩ v5) : W.heap[b]? = some (.cells #[v0, v1, v2, v3, v4, v5] T (0, 0)) := by
  subst hW
  have q0 : (y.setCell ⟨b, 0, none⟩ v0).heap[b]? = some (.cells #[v0, z1, z2, z3, z4, z5] T (0, 0)) := setCell_block hz
  have q1 : ((y.setCell ⟨b, 0, none⟩ v0).setCell ⟨b, 1, none⟩ v1).heap[b]? = some (.cells #[v0, v1, z2, z3, z4, z5] T (0, 0)) := setCell_block q0
  have q2 : (((y.setCell ⟨b, 0, none⟩ v0).setCell ⟨b, 1, none⟩ v1).setCell ⟨b, 2, none⟩ v2).heap[b]? = some (.cells #[v0, v1, v2, z3, z4, z5] T (0, 0)) := setCell_block q1
  have q3 : ((((y.setCell ⟨b, 0, none⟩ v0).setCell ⟨b, 1, none⟩ v1).setCell ⟨b, 2, none⟩ v2).setCell ⟨b, 3, none⟩ v3).heap[b]? = some (.cells #[v0, v1, v2, v3, z4, z5] T (0, 0)) := setCell_block q2
  have q4 : (((((y.setCell ⟨b, 0, none⟩ v0).setCell ⟨b, 1, none⟩ v1).setCell ⟨b, 2, none⟩ v2).setCell ⟨b, 3, none⟩ v3).setCell ⟨b, 4, none⟩ v4).heap[b]? = some (.cells #[v0, v1, v2, v3, v4, z5] T (0, 0)) := setCell_block q3
  exact setCell_block q4
set_option maxRecDepth 20000 in
set_option maxHeartbeats 1000000 in
theorem twin_zero (w : World) : Calls Tryz.prog 128 #[.agg #[.int .i64 0, .int .i64 0, .int .i64 0, .string ⟨#[]⟩, .slice none 0 0, .int .i64 0]] w fun e w' => ∃ mo mc, e = .returned (.agg #[.int .i64 0, .int .i64 0, .int .i64 0, .string ⟨#[]⟩, .slice mo 0 mc, .int .i64 0]) ∧ Below w.heap.size w w' := by
  obtain ⟨B, hB⟩ : ∃ B, w.heap.size = B := ⟨_, rfl⟩
  obtain ⟨W, hW⟩ : ∃ W, (w.alloc (.cells #[.int .i64 0, .int .i64 0, .int .i64 0, .string ⟨#[]⟩, .slice none 0 0, .int .i64 0] 43)).alloc (.cells #[.int .i64 0, .int .i64 0, .int .i64 0, .string ⟨#[]⟩, .slice none 0 0, .int .i64 0] 43) = W := ⟨_, rfl⟩
  have s1 : (w.alloc (.cells #[.int .i64 0, .int .i64 0, .int .i64 0, .string ⟨#[]⟩, .slice none 0 0, .int .i64 0] 43)).heap.size = B + 1 := by rw [World.size_alloc, hB]
  have x1 : W.heap[B + 1]? = some (.cells #[.int .i64 0, .int .i64 0, .int .i64 0, .string ⟨#[]⟩, .slice none 0 0, .int .i64 0] 43 (0, 0)) := by rw [← hW, ← s1]; exact box_at _ _
  have x0 : W.heap[B]? = some (.cells #[.int .i64 0, .int .i64 0, .int .i64 0, .string ⟨#[]⟩, .slice none 0 0, .int .i64 0] 43 (0, 0)) := by rw [← hW]; exact (Below.heap_alloc _ _ _ (by omega)).trans (by rw [← hB]; exact box_at _ _)
  have bW : Below w.heap.size w W := by rw [← hW]; exact ((Below.refl _ w).alloc (Nat.le_refl _) _).alloc (by rw [s1]; omega) _
  have a4 : W.cell? ⟨B, 4, none⟩ = some (.slice none 0 0) := (cell_of_block x0).trans rfl
  have HW := hide hW
  have HB := hide hB
  have BW := hide bW
  have X0 := hide x0
  have X1 := hide x1
  clear hW hB bW x0 x1 s1
  go_enter Tryz.func128, Tryz.ntmps128
  go_upto_region 1 with fail
  rw [unhide HW, unhide HB]
  go_wp2_with (refine wpList_app rfl (.const (.slice none 0 0)) (.tmp 4) rfl w.heap.size (.slice none 0 0) [] rfl (Ir.nil _ _) none 0 0 [] rfl rfl (IntsR.nil _ _) (by decide) (unhide BW).size ?_)
  intro mv w1 o1 g1
  obtain ⟨mo, mc, rfl, _⟩ := Ir.slice (ys := []) o1
  have b1 : Below W.heap.size W w1 := (Below.refl _ W).grown g1 (Nat.le_refl _) (fun k hk => by simp [Value.ownBlock] at hk)
  have h0 := Below.stay b1 (unhide X0)
  have h1 := Below.stay b1 (unhide X1)
  have B1 := hide (below_far (unhide BW) b1)
  have f4 : w1.frozen? ⟨B, 4, none⟩ = false := free_of_block h0
  have a4' : w1.cell? ⟨B, 4, none⟩ = some (.slice none 0 0) := (cell_of_block h0).trans rfl
  have H0 := hide h0
  have H1 := hide h1
  have hbB : w.heap.size ≤ B := by rw [unhide HB]; exact Nat.le_refl _
  have HBB := hide hbB
  clear h0 h1 b1 o1 g1 a4 X0 X1 BW hbB
  go_upto_region 2 with fail
  obtain ⟨Y, hY⟩ : ∃ Y, w1.setCell ⟨B, 4, none⟩ (.slice mo 0 mc) = Y := ⟨_, rfl⟩
  have y0 : Y.heap[B]? = some (.cells #[.int .i64 0, .int .i64 0, .int .i64 0, .string ⟨#[]⟩, .slice mo 0 mc, .int .i64 0] 43 (0, 0)) := by rw [← hY]; exact setCell_block (unhide H0)
  have y1 : Y.heap[B + 1]? = some (.cells #[.int .i64 0, .int .i64 0, .int .i64 0, .string ⟨#[]⟩, .slice none 0 0, .int .i64 0] 43 (0, 0)) := by rw [← hY]; exact (Below.heap_setCell _ _ _ _ (by simp)).trans (unhide H1)
  have bY : Below w.heap.size w Y := by rw [← hY]; exact (unhide B1).setCell (p := ⟨B, 4, none⟩) (unhide HBB) _
  obtain ⟨k0, k1, k2, k3, k4, k5, kf⟩ := six_of y0
  obtain ⟨z0, z1, z2, z3, z4, z5, zf⟩ := six_of y1
  have Y1 := hide y1
  have BY := hide bY
  have HY : Hid (w1.setCell ⟨B, 4, none⟩ (.slice mo ([] ++ ([] : List Int)).length mc) = Y) := hide hY
  rw [show w1.setCell ⟨B, 4, none⟩ (.slice mo 0 mc) = Y from hY]
  clear hY y0 y1 bY f4 a4' H0 H1 B1
  go_wp2
  obtain ⟨w2, hw2⟩ : ∃ w2, w2 = ((((((Y.setCell ⟨B + 1, 0, none⟩ (.int .i64 0)).setCell ⟨B + 1, 1, none⟩ (.int .i64 0)).setCell ⟨B + 1, 2, none⟩ (.int .i64 0)).setCell ⟨B + 1, 3, none⟩ (.string ⟨#[]⟩)).setCell ⟨B + 1, 4, none⟩ (.slice mo 0 mc)).setCell ⟨B + 1, 5, none⟩ (.int .i64 0)) := ⟨_, rfl⟩
  rw [← hw2]
  have bw : Below w.heap.size w w2 := by rw [hw2]; exact set6 (unhide BY) (Nat.le_succ_of_le (unhide HBB))
  obtain ⟨r0, r1, r2, r3, r4, r5, _⟩ := six_of (chain6' (unhide Y1) hw2)
  exact bodyPost_ret (v := .agg #[.int .i64 0, .int .i64 0, .int .i64 0, .string ⟨#[]⟩, .slice mo 0 mc, .int .i64 0]) (by simp [results, Tryz.results128, go_sem, r0, r1, r2, r3, r4, r5]) rfl ⟨mo, mc, rfl, bw⟩
end Go.Proofs.YtjplhiflemmkfaaGreatDoor
namespace Go.Proofs.YtjplhiflemmkfaaGreatDoor
open Go.RowKit Go.Maps

theorem look_none {w : World} {r : Nat} (h : w.heap[r]? = some (.map #[] 0)) (x : Int) (hx : (Lit.int .i64 x).wf = true) :
    (Instr.lookup 153 (.map (some r)) (.int .i64 x) true).run Tryz.prog w = .ok (.tuple #[.agg #[.int .i64 0, .int .i64 0, .int .i64 0, .string ⟨#[]⟩, .slice none 0 0, .int .i64 0], .bool false]) w := by
  have ho : w.ownsMap Tryz.prog 3 (fun v => some (DataW.held v, ([] : List MemPlace))) r 0 (.map []) := ⟨#[], 0, h, ⟨by simp, MapKept.stamped_empty 0, by simp⟩, Nat.le_refl _, rfl⟩
  obtain ⟨v, ps, k1, k2⟩ := ho.look_ok keyedI Tryz.underlying153 (zeroEn w) rfl (keyOf_int_mk Tryz.underlying3 hx)
  simp only [Option.some.injEq, Prod.mk.injEq] at k2
  have : v = .agg #[.int .i64 0, .int .i64 0, .int .i64 0, .string ⟨#[]⟩, .slice none 0 0, .int .i64 0] := by
    have := k2.1
    simpa [DataW.atKey] using this
  rw [k1, this]
  rfl
set_option maxRecDepth 20000 in
set_option maxHeartbeats 1000000 in
theorem pentry_none {c : Nat} {id base : Int} {ms : List Int} (i : Int) (hi : (Lit.int .i64 i).wf = true) (w : World) (h : PNew w c id ms base) : Calls Tryz.prog 244 #[.pointer (some ⟨c, 0, none⟩), .int .i64 i] w fun e w' => ∃ mo mc, e = .returned (.tuple #[.agg #[.int .i64 0, .int .i64 0, .int .i64 0, .string ⟨#[]⟩, .slice mo 0 mc, .int .i64 0], .bool false]) ∧ Below w.heap.size w w' := by
  obtain ⟨W, hW⟩ : ∃ W, w.alloc (.cells #[.int .i64 0, .int .i64 0, .int .i64 0, .string ⟨#[]⟩, .slice none 0 0, .int .i64 0] 43) = W := ⟨_, rfl⟩
  have bW : Below w.heap.size w W := by rw [← hW]; exact (Below.refl _ w).alloc (Nat.le_refl _) _
  obtain ⟨B, hB⟩ : ∃ B, w.heap.size = B := ⟨_, rfl⟩
  have xW : W.heap[B]? = some (.cells #[.int .i64 0, .int .i64 0, .int .i64 0, .string ⟨#[]⟩, .slice none 0 0, .int .i64 0] 43 (0, 0)) := by rw [← hB, ← hW]; exact box_at _ _
  obtain ⟨l, k, h1, ⟨ao, cap, a, q, r, g1, _, _, _, _, _, _, g8⟩, _⟩ := h.below bW
  have c0 : W.cell? ⟨c, 0, none⟩ = some (.pointer (some ⟨l, 0, none⟩)) := (cell_of_block h1).trans rfl
  have l3 : W.cell? ⟨l, 3, none⟩ = some (.map (some r)) := (cell_of_block g1).trans rfl
  have LK := look_none g8 i hi
  have HW := hide hW
  have HB := hide hB
  have BW := hide bW
  have XW := hide xW
  clear h1 g1 g8 hW hB bW xW h hi
  go_enter Tryz.func244, Tryz.ntmps244
  go_upto_region 1 with fail
  rw [unhide HW, unhide HB]
  clear HW
  go_upto_region 2 with fail
  obtain ⟨w2, hw2⟩ : ∃ w2, W.alloc (.cells #[.int .i64 0, .int .i64 0, .int .i64 0, .string ⟨#[]⟩, .slice none 0 0, .int .i64 0] 43) = w2 := ⟨_, rfl⟩
  obtain ⟨M, hM⟩ : ∃ M, W.heap.size = M := ⟨_, rfl⟩
  have x2 : w2.heap[M]? = some (.cells #[.int .i64 0, .int .i64 0, .int .i64 0, .string ⟨#[]⟩, .slice none 0 0, .int .i64 0] 43 (0, 0)) := by rw [← hM, ← hw2]; exact box_at _ _
  have b2 : Below W.heap.size W w2 := by rw [← hw2]; exact (Below.refl _ W).alloc (Nat.le_refl _) _
  rw [hw2, hM]
  obtain ⟨q0, q1, q2, q3, q4, q5, qf⟩ := six_of x2
  have TW := hide (twin_zero w2)
  have B2 := hide (below_far (unhide BW) b2)
  have X2 := hide (Below.stay b2 (unhide XW))
  clear hw2 hM x2 b2 c0 l3 LK BW XW
  go_wp2_with fail
  refine (unhide TW).mono ?_
  rintro e w3 ⟨mo, mc, rfl, b3⟩
  have x3 := Below.stay b3 (unhide X2)
  have X3 := hide x3
  have B3 := hide (below_far (unhide B2) b3)
  clear q0 q1 q2 q3 q4 q5 qf TW B2 X2 b3
  obtain ⟨q0, q1, q2, q3, q4, q5, qf⟩ := six_of x3
  clear x3
  go_wp2
  obtain ⟨w4, hw4⟩ : ∃ w4, w4 = ((((((w3.setCell ⟨B, 0, none⟩ (.int .i64 0)).setCell ⟨B, 1, none⟩ (.int .i64 0)).setCell ⟨B, 2, none⟩ (.int .i64 0)).setCell ⟨B, 3, none⟩ (.string ⟨#[]⟩)).setCell ⟨B, 4, none⟩ (.slice mo 0 mc)).setCell ⟨B, 5, none⟩ (.int .i64 0)) := ⟨_, rfl⟩
  rw [← hw4]
  have bw : Below w.heap.size w w4 := by rw [hw4]; exact set6 (unhide B3) (by rw [unhide HB]; exact Nat.le_refl _)
  obtain ⟨r0, r1, r2, r3, r4, r5, _⟩ := six_of (chain6' (unhide X3) hw4)
  exact bodyPost_ret (v := .tuple #[.agg #[.int .i64 0, .int .i64 0, .int .i64 0, .string ⟨#[]⟩, .slice mo 0 mc, .int .i64 0], .bool false]) (by simp [results, Tryz.results244, go_sem, r0, r1, r2, r3, r4, r5]) rfl ⟨mo, mc, rfl, bw⟩

set_option maxRecDepth 20000 in
set_option maxHeartbeats 1000000 in
theorem pload_fresh (id base : Int) (ms : List Int) (hch : coreCheck id ms base = 0) (hc : Core0 id base ms) (ao : Option Addr) (n cap : Nat) (w : World) (hg : Given w ao n cap (frame (psaid base ms).packed.bytes)) (h256 : ∀ b ∈ (psaid base ms).packed.bytes, b < 256) (hS : Start w) :
    Calls Tryz.prog 223 #[.int .i64 id, .slice ao n cap] w fun e w' => ∃ c, e = .returned (.tuple #[.pointer (some ⟨c, 0, none⟩), .int .i64 0]) ∧ PNew w' c id ms base ∧ Below w.heap.size w w' := by
  have RS := hide (restoreP_any (psaid base ms).packed (packed_ok (Nat.zero_le _) rfl (Nat.zero_le _) hc.nine) (psaid64 hc) rfl id hch (fun w l => PFresh w l ms base) (fun w w' l h hb => h.below hb)
    (fun Y aot aoe aoo aon ct ce co cn _ i1 i3 i4 => prestored_fresh base ms hc.b0 hc.b1 (by have := hc.len; omega) aot aoe aoo aon ct ce co cn ms.length rfl Y i4)
    (fun Y l hS h => pbytes_fresh hc.b0 hc.b1 hc.nine Y h hS) ao n cap w hg h256 hS)
  clear hg h256 hS
  go_enter Tryz.func223, Tryz.ntmps223
  go_wp2_with fail
  refine (unhide RS).mono ?_
  rintro e w1 ⟨l, rfl, r1, b1⟩
  have BG := hide (pbegin_any id base ms l w1 r1)
  have B1 := hide b1
  clear RS r1 b1
  go_wp2_with fail
  refine (unhide BG).mono ?_
  rintro e w2 ⟨c, rfl, r2, _, b2⟩
  have R := hide (And.intro r2 (below_far (unhide B1) b2))
  clear BG r2 b2 B1
  go_wp2
  go_ret2
  exact ⟨c, rfl, (unhide R).1, (unhide R).2⟩
end Go.Proofs.YtjplhiflemmkfaaGreatDoor

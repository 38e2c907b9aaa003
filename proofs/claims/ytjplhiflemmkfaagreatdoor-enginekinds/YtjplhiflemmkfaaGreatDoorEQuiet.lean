/- Regions whose operations read, and whose callees make memory at most: one walk serves every order. raft.restored: a contract. -/
import Derived.Test.YtjplhiflemmkfaaGreatDoorECheck
import Derived.BigQuiet
import Derived.Test.YtjplhiflemmkfaaGreatDoorERaft3
import Derived.Test.YtjplhiflemmkfaaGreatDoorHhHPut
namespace Go.Proofs.YtjplhiflemmkfaaGreatDoor
open Go.RowKit Go.Maps

/-- a world behind another one, of which it keeps all. -/
structure Bel (z : World) where
  w : World
  b : Below z.heap.size z w
theorem Bel.ne (z : World) : Nonempty (Bel z) := ⟨⟨z, Below.refl _ z⟩⟩
theorem Bel.cell {z : World} (s : Bel z) {a : Addr} {u : Value} (h : z.cell? a = some u) : s.w.cell? a = some u := (s.b.cell (blk_lt h)).trans h
theorem Bel.of {z w : World} (h : ∃ s : Bel z, w = s.w) : Below z.heap.size z w := by
  obtain ⟨s, rfl⟩ := h
  exact s.b
theorem Bel.call {z : World} {f : FuncId} {args : Array Value} {v : Value} (s : Bel z) (h : Calls Tryz.prog f args s.w fun e w' => e = .returned v ∧ Below s.w.heap.size s.w w') : Calls Tryz.prog f args s.w fun e w' => e = .returned v ∧ ∃ t : Bel z, w' = t.w :=
  h.mono fun _ w' k => ⟨k.1, ⟨w', below_far s.b k.2⟩, rfl⟩
theorem quiet_bel {id : Nat} {Q : Exit → Act → World → Prop} {a : Act} {z : World} {l : List Oper} (hm : Tryz.prog.follows .mixedOrders = true) (hB : Region.lexB .any l.toArray = true)
    (h : wpQuiet Tryz.prog l.toArray (fun w' => ∃ s : Bel z, w' = s.w) (fun a' => ∀ w', (∃ s : Bel z, w' = s.w) → Q .normal a' w') l a) : (Code.region id l.toArray true).wp Tryz.prog Q a z :=
  wp_region_quiet (C := fun w' => ∃ s : Bel z, w' = s.w) hm hB ⟨⟨z.drew, (Below.refl _ z).drew⟩, rfl⟩ (by simpa using h)
end Go.Proofs.YtjplhiflemmkfaaGreatDoor
namespace Go.Proofs.YtjplhiflemmkfaaGreatDoor
open Go.RowKit Go.Maps
attribute [local go_sem ↓] Go.wp_at_zero Go.wp_at_succ

theorem hput_none {D : Nat → Prop} {w : World} {p : Nat} {b : Int} (h : Hh.Hs D w p b []) (h0 : 0 ≤ b) (h1 : b ≤ 64) (aot aoe : Option Addr) (ct ce : Nat) :
    Calls Tryz.prog 160 #[.pointer (some ⟨p, 0, none⟩), .int .i64 b, .int .i64 0, .slice aot 0 ct, .slice aoe 0 ce] w fun e w' => e = .returned (.tuple #[.int .i64 b, .int .i64 0]) ∧ (∃ E : Nat → Prop, Hh.Hs E w' p b []) ∧ Kp D w w' := by
  have e0 : Hh.putNo b [] b 0 [] 0 = 0 := by simp [Hh.putNo, Hh.climbsOf]; omega
  refine (Hh.put_any (F := fun _ => False) h (fit_nil h0 h1) (by simp) b 0 aot 0 ct [] rfl (by decide) (Hh.InF.nil _ _ _) aoe 0 ce [] rfl (by decide) (Hh.EsR.nil _ _ _) (fun _ x => x.elim)).mono ?_
  rintro e w' ⟨rfl, k2, k3⟩
  exact ⟨by simp [Hh.putN, e0], ⟨_, by simpa [Hh.putRows, e0, Hh.putGo] using k2⟩, k3⟩
theorem hterm_none {D : Nat → Prop} {w : World} {p : Nat} {b : Int} (h : Hh.Hs D w p b []) (h0 : 0 ≤ b) (h1 : b ≤ 64) (i : Int) :
    Calls Tryz.prog 118 #[.pointer (some ⟨p, 0, none⟩), .int .i64 i] w fun e w' => e = .returned (.int .i64 0) ∧ Below w.heap.size w w' := by
  have e0 : Hh.termOf b [] i = 0 := by simp [Hh.termOf, Hh.rowAt]
  exact (Hh.term_any h (fit_nil h0 h1) i).mono (by rintro e w' ⟨rfl, k⟩; rw [e0]; exact ⟨rfl, k⟩)
theorem hnew_at (b : Int) (w : World) (m : Nat) (hm : m ≤ w.heap.size) :
    Calls Tryz.prog 51 #[.int .i64 b] w fun e w' => ∃ q, e = .returned (.pointer (some ⟨q, 0, none⟩)) ∧ m ≤ q ∧ q < w'.heap.size ∧ Hh.Hs (fun k => k = q) w' q b [] ∧ Below w.heap.size w w' :=
  (Hh.hnew_any b w).mono (by rintro e w' ⟨rfl, k1, k2⟩; exact ⟨_, rfl, hm, k1.lt _ rfl, k1, k2⟩)
set_option maxRecDepth 20000 in
set_option maxHeartbeats 2000000 in
theorem rrestored_fresh (base : Int) (ms : List Int) (hb0 : 0 ≤ base) (hb1 : base ≤ 64) (aot aoe aoo aon : Option Addr) (ct ce co cn n : Nat) (hn : ms.length = n) (w : World) (hm : Mbrs w aon cn ms) :
    Calls Tryz.prog 89 #[.agg #[.int .i64 0, .int .i64 0, .int .i64 0, .int .i64 15, .int .i64 0, .int .i64 base, .int .i64 (-1), .int .i64 base, .bool false, .slice aot 0 ct, .slice aoe 0 ce, .slice aoo 0 co, .slice aon n cn]] w fun e w' => ∃ l, e = .returned (.tuple #[.pointer (some ⟨l, 0, none⟩), .int .i64 0]) ∧ RFresh w' l ms base ∧ Below w.heap.size w w' := by
  obtain ⟨B, hB⟩ : ∃ B, w.heap.size = B := ⟨_, rfl⟩
  obtain ⟨W, hW⟩ : ∃ W, w.alloc (.cells #[.int .i64 0, .int .i64 0, .int .i64 0, .int .i64 15, .int .i64 0, .int .i64 base, .int .i64 (-1), .int .i64 base, .bool false, .slice aot 0 ct, .slice aoe 0 ce, .slice aoo 0 co, .slice aon n cn] 50) = W := ⟨_, rfl⟩
  have x1 : W.heap[B]? = some (.cells #[.int .i64 0, .int .i64 0, .int .i64 0, .int .i64 15, .int .i64 0, .int .i64 base, .int .i64 (-1), .int .i64 base, .bool false, .slice aot 0 ct, .slice aoe 0 ce, .slice aoo 0 co, .slice aon n cn] 50 (0, 0)) := by rw [← hB, ← hW]; exact heap_alloc_new _ _
  have bW : Below w.heap.size w W := by rw [← hW]; exact (Below.refl _ w).alloc (Nat.le_refl _) _
  have SX := hide (fun (Y : World) (hY : Below W.heap.size W Y) => (show Y.cell? ⟨B, 12, none⟩ = some (.slice aon n cn) ∧ Y.cell? ⟨B, 5, none⟩ = some (.int .i64 base) ∧ Y.cell? ⟨B, 4, none⟩ = some (.int .i64 0) ∧ Y.cell? ⟨B, 6, none⟩ = some (.int .i64 (-1)) ∧ Y.cell? ⟨B, 7, none⟩ = some (.int .i64 base) ∧ Y.cell? ⟨B, 9, none⟩ = some (.slice aot 0 ct) ∧ Y.cell? ⟨B, 10, none⟩ = some (.slice aoe 0 ce) from ⟨(cell_of_block (Below.stay hY x1)).trans rfl, (cell_of_block (Below.stay hY x1)).trans rfl, (cell_of_block (Below.stay hY x1)).trans rfl, (cell_of_block (Below.stay hY x1)).trans rfl, (cell_of_block (Below.stay hY x1)).trans rfl, (cell_of_block (Below.stay hY x1)).trans rfl, (cell_of_block (Below.stay hY x1)).trans rfl⟩))
  have CN := hide (fun (Y : World) (hY : Below W.heap.size W Y) => hnew_at base Y W.heap.size hY.size)
  have EZ := hide (Below.refl W.heap.size W)
  have HW := hide hW
  have X1 := hide x1
  have HB := hide hB
  have BW := hide bW
  have HM := hide (hm.below bW)
  have HN := hide hn
  clear hW hB bW hm x1 hn
  go_enter Tryz.func89, Tryz.ntmps89
  go_upto_region 1 with fail
  rw [unhide HW, unhide HB]
  clear HW
  go_region_held3 (fun Y => Y.cell? ⟨B, 12, none⟩ = some (.slice aon n cn) ∧ Y.cell? ⟨B, 5, none⟩ = some (.int .i64 base) ∧ Y.cell? ⟨B, 4, none⟩ = some (.int .i64 0) ∧ Y.cell? ⟨B, 6, none⟩ = some (.int .i64 (-1)) ∧ Y.cell? ⟨B, 7, none⟩ = some (.int .i64 base) ∧ Y.cell? ⟨B, 9, none⟩ = some (.slice aot 0 ct) ∧ Y.cell? ⟨B, 10, none⟩ = some (.slice aoe 0 ce)) (first | with_reducible exact unhide SX _ (unhide EZ) | with_reducible exact unhide SX _ (unhide EZ).drew | with_reducible exact unhide SX _ ((unhide EZ).alloc (unhide EZ).size _) | with_reducible exact unhide SX _ ((unhide EZ).alloc (unhide EZ).size _).drew | with_reducible exact unhide SX _ (set6 (unhide EZ) (Nat.le_refl _)) | with_reducible exact unhide SX _ (set6 ((unhide EZ).alloc (unhide EZ).size _) (unhide EZ).size) | with_reducible exact unhide SX _ (set6 ((unhide EZ).alloc (unhide EZ).size _).drew (unhide EZ).size) | with_reducible exact unhide SX _ (set2 (unhide EZ) (Nat.le_refl _)) | go_keep | fail)
    (first
      | (go_at_call 51
         refine (unhide CN _ (by first | exact unhide EZ | exact (unhide EZ).drew | exact (unhide EZ).alloc (unhide EZ).size _ | exact ((unhide EZ).alloc (unhide EZ).size _).drew | fail)).mono ?_
         rintro e z1 ⟨q, rfl, mq, lq, hz, bz⟩
         have HZ := hide (And.intro mq (And.intro lq hz))
         clear mq lq hz
         have EN := hide (below_far (by first | exact unhide EZ | exact (unhide EZ).drew | exact (unhide EZ).alloc (unhide EZ).size _ | exact ((unhide EZ).alloc (unhide EZ).size _).drew | fail) bz)
         clear EZ bz
         have EZ := EN
         clear EN)
      | fail)
  obtain ⟨w2, hw2⟩ : ∃ w2, z1.alloc (.cells #[.slice aon n cn, .int .i64 base, .int .i64 0, .int .i64 (-1), .int .i64 base, .pointer (some ⟨q, 0, none⟩)] 74) = w2 := ⟨_, rfl⟩
  have x2 : w2.heap[z1.heap.size]? = some (.cells #[.slice aon n cn, .int .i64 base, .int .i64 0, .int .i64 (-1), .int .i64 base, .pointer (some ⟨q, 0, none⟩)] 74 (0, 0)) := by rw [← hw2]; exact box_at _ _
  have b2 : Below z1.heap.size z1 w2 := by rw [← hw2]; exact (Below.refl _ z1).alloc (Nat.le_refl _) _
  obtain ⟨l, hl⟩ : ∃ l, z1.heap.size = l := ⟨_, rfl⟩
  rw [hl] at x2
  have BZ := hide (below_far (unhide EZ) b2)
  have nlq : l ≠ q := by have := (unhide HZ).2.1; omega
  have nBq : B ≠ q := by
    have h1 := (unhide HZ).1
    have h2 := heap_lt (unhide X1)
    omega
  have sb := fun (Y : World) (hY : Kp (fun k => k = q) w2 Y) => (show Y.cell? ⟨l, 0, none⟩ = some (.slice aon n cn) ∧ Y.cell? ⟨l, 1, none⟩ = some (.int .i64 base) ∧ Y.cell? ⟨l, 2, none⟩ = some (.int .i64 0) ∧ Y.cell? ⟨l, 3, none⟩ = some (.int .i64 (-1)) ∧ Y.cell? ⟨l, 4, none⟩ = some (.int .i64 base) ∧ Y.cell? ⟨l, 5, none⟩ = some (.pointer (some ⟨q, 0, none⟩)) ∧ Y.cell? ⟨B, 9, none⟩ = some (.slice aot 0 ct) ∧ Y.cell? ⟨B, 10, none⟩ = some (.slice aoe 0 ce) from
    ⟨(cell_of_block (hY.block x2 nlq)).trans rfl, (cell_of_block (hY.block x2 nlq)).trans rfl, (cell_of_block (hY.block x2 nlq)).trans rfl, (cell_of_block (hY.block x2 nlq)).trans rfl, (cell_of_block (hY.block x2 nlq)).trans rfl, (cell_of_block (hY.block x2 nlq)).trans rfl, (cell_of_block (hY.block (Below.stay (unhide BZ) (unhide X1)) nBq)).trans rfl, (cell_of_block (hY.block (Below.stay (unhide BZ) (unhide X1)) nBq)).trans rfl⟩)
  clear SX
  have SX := hide sb
  have PU := hide (fun (Y : World) (hY : Below w2.heap.size w2 Y) => hput_none (((unhide HZ).2.2.below b2).below hY) hb0 hb1 aot aoe ct ce)
  clear EZ
  have EZ := hide (Kp.refl (fun k => k = q) w2)
  rw [hw2, hl]
  have HW2 := hide (And.intro hw2 (And.intro x2 hl))
  clear sb x2 hw2 hl b2
  go_upto_region 2 with fail
  go_region_held3 (fun Y => Y.cell? ⟨l, 0, none⟩ = some (.slice aon n cn) ∧ Y.cell? ⟨l, 1, none⟩ = some (.int .i64 base) ∧ Y.cell? ⟨l, 2, none⟩ = some (.int .i64 0) ∧ Y.cell? ⟨l, 3, none⟩ = some (.int .i64 (-1)) ∧ Y.cell? ⟨l, 4, none⟩ = some (.int .i64 base) ∧ Y.cell? ⟨l, 5, none⟩ = some (.pointer (some ⟨q, 0, none⟩)) ∧ Y.cell? ⟨B, 9, none⟩ = some (.slice aot 0 ct) ∧ Y.cell? ⟨B, 10, none⟩ = some (.slice aoe 0 ce)) (first | with_reducible exact unhide SX _ (unhide EZ) | with_reducible exact unhide SX _ (unhide EZ).drew | fail)
    (first
      | (go_at_call 160
         refine (unhide PU _ (by first | exact Below.refl _ w2 | exact (Below.refl _ w2).drew | fail)).mono ?_
         rintro e z2 ⟨rfl, ⟨E, hz⟩, bz⟩
         have HZ2 := hide hz
         have EN := hide (Kp.trans (by first | exact unhide EZ | exact (unhide EZ).drew | fail) bz (fun j _ hj => hj))
         clear EZ bz hz
         have EZ := EN
         clear EN)
      | fail)
  have x2 := (unhide EZ).block (unhide HW2).2.1 (by have h1 := (unhide HZ).2.1; have h2 := (unhide HW2).2.2; omega)
  have f1 : ∀ s : Bel z2, s.w.cell? ⟨l, 1, none⟩ = some (.int .i64 base) := fun s => s.cell ((cell_of_block x2).trans rfl)
  have f2 : ∀ s : Bel z2, s.w.cell? ⟨l, 2, none⟩ = some (.int .i64 0) := fun s => s.cell ((cell_of_block x2).trans rfl)
  have f3 : ∀ s : Bel z2, s.w.cell? ⟨l, 3, none⟩ = some (.int .i64 (-1)) := fun s => s.cell ((cell_of_block x2).trans rfl)
  have f4 : ∀ s : Bel z2, s.w.cell? ⟨l, 4, none⟩ = some (.int .i64 base) := fun s => s.cell ((cell_of_block x2).trans rfl)
  have f5 : ∀ s : Bel z2, s.w.cell? ⟨l, 5, none⟩ = some (.pointer (some ⟨q, 0, none⟩)) := fun s => s.cell ((cell_of_block x2).trans rfl)
  have CT := hide (fun s : Bel z2 => s.call (hterm_none ((unhide HZ2).below s.b) hb0 hb1 base))
  have X2 := hide x2
  have KZ := EZ
  clear EZ x2 SX
  go_upto_region 5 with fail
  have nebel := Bel.ne z2
  refine quiet_bel (by kernel_rfl) (by kernel_rfl) ?_
  repeat (go_big_quiet_step (first | exact unhide CT _ | fail))
  refine wpQuiet_nil ?_
  intro wq hwq
  have bq := Bel.of hwq
  clear hwq nebel
  go_wp2
  go_ret2
  have bz : Below W.heap.size W z2 := (unhide BZ).trans ((unhide KZ).below (fun k hk => by subst hk; exact (unhide HZ).1) (unhide BZ).size)
  have bw : Below W.heap.size W wq := bz.trans (bq.mono bz.size)
  have hm := (unhide HM).below bw
  have hn := unhide HN
  refine ⟨l, rfl, ⟨aon, cn, q, E, ?_, hm.fr, hm.le, hm.mx, hm.nul, (unhide HZ2).below bq⟩, below_far (unhide BW) bw⟩
  rw [hn]; exact Below.stay bq (unhide X2)
end Go.Proofs.YtjplhiflemmkfaaGreatDoor

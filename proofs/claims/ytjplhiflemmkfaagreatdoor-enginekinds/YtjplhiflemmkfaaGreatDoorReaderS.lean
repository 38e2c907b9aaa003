/- wire.parse of an entry, of a configuration, of a message: contracts. -/
import Derived.Test.YtjplhiflemmkfaaGreatDoorReadPure
namespace Go.Proofs.YtjplhiflemmkfaaGreatDoor
open Go.RowKit
/-- these cells are that message. -/
def MsgIs (base : Nat) (w : World) (cs : Array Value) (x : Mes) : Prop := ∃ v1 v2 v3 v4 vs, cs = x.cells v1 v2 v3 v4 ∧ x.rows base w v1 v2 v3 v4 vs

set_option maxRecDepth 20000 in
set_option maxHeartbeats 4000000 in
theorem parseMsg (ao : Option Addr) (n cap : Nat) (bs : List Nat) (w : World) (hg : Given w ao n cap bs) (hS : Start w) :
    Calls Tryz.prog 271 #[.slice ao n cap, .func (.func 272) #[] #[]] w fun e w' => ∃ cs, e = .returned (.tuple #[.agg cs, .int .i64 (((rend n (rmsg bs (0, 0)).2).2 : Nat) : Int)]) ∧ Below w.heap.size w w' ∧
      ((rend n (rmsg bs (0, 0)).2).2 = 0 → MsgIs w.heap.size w' cs (rmsg bs (0, 0)).1) ∧
      ((rend n (rmsg bs (0, 0)).2).2 ≠ 0 → cs = #[.int .i64 0, .int .i64 0, .int .i64 0, .int .i64 0, .int .i64 0, .int .i64 0, .int .i64 0, .int .i64 0, .bool false, .slice none 0 0, .slice none 0 0, .slice none 0 0, .slice none 0 0]) := by
  obtain ⟨w1, hw1⟩ : ∃ w1, (w.alloc (.cells #[.int .i64 0, .int .i64 0, .int .i64 0, .int .i64 0, .int .i64 0, .int .i64 0, .int .i64 0, .int .i64 0, .bool false, .slice none 0 0, .slice none 0 0, .slice none 0 0, .slice none 0 0] 50)).alloc (.cells #[.slice ao n cap, .int .i64 0, .nilIface] 357) = w1 := ⟨_, rfl⟩
  have b1 : Below w.heap.size w w1 := by rw [← hw1]; exact ((Below.refl _ w).alloc (Nat.le_refl _) _).alloc (by simp) _
  have hp1 : w1.heap[w.heap.size + 1]? = some (.cells #[.slice ao n cap, .int .i64 0, .nilIface] 357 (0, 0)) := by
    rw [← hw1]
    have h := heap_alloc_new (w.alloc (.cells #[.int .i64 0, .int .i64 0, .int .i64 0, .int .i64 0, .int .i64 0, .int .i64 0, .int .i64 0, .int .i64 0, .bool false, .slice none 0 0, .slice none 0 0, .slice none 0 0, .slice none 0 0] 50)) (.cells #[.slice ao n cap, .int .i64 0, .nilIface] 357)
    simpa using h
  have hq1 : w1.heap[w.heap.size]? = some (.cells #[.int .i64 0, .int .i64 0, .int .i64 0, .int .i64 0, .int .i64 0, .int .i64 0, .int .i64 0, .int .i64 0, .bool false, .slice none 0 0, .slice none 0 0, .slice none 0 0, .slice none 0 0] 50 (0, 0)) := by
    rw [← hw1]
    exact (Below.heap_alloc _ _ _ (by simp)).trans (heap_alloc_new _ _)
  have z1 : w.heap.size + 2 ≤ w1.heap.size := by rw [← hw1]; simp
  have R1 : Hid (Rg w.heap.size w1 w1 (w.heap.size + 1) ao n cap bs (0, 0)) := Rg.start (s := (0, 0)) ⟨_, hp1, by omega, Or.inl ⟨rfl, rfl⟩, Nat.zero_le _⟩ (hg.src b1) b1.size
  have S1 := hide (hS.below b1)
  have ZG := hide hS.2.2
  have B1 := hide b1
  have HQ1 := hide hq1
  have HW1 := hide hw1
  clear b1 hp1 hq1 hw1 hS hg
  have C2 := hide (rg_msg (unhide R1))
  obtain ⟨X, hX⟩ : ∃ X, rmsg bs (0, 0) = X := ⟨_, rfl⟩
  rw [hX] at C2 ⊢
  clear hX
  obtain ⟨⟨x0, x1, x2, x3, x4, x5, x6, x7, x8, x9, x10, x11, x12⟩, sx⟩ := X
  obtain ⟨F, hF⟩ : ∃ F, rend n sx = F := ⟨_, rfl⟩
  simp only [hF]
  have HF := hide hF
  clear hF
  obtain ⟨fp, fe⟩ := F
  simp only at C2 ⊢
  go_enter Tryz.func271, Tryz.ntmps271
  go_wp2_with fail
  rw [unhide HW1]
  clear HW1
  refine (unhide C2).mono ?_
  rintro e w2 ⟨v1, v2, v3, v4, vs, rfl, ⟨o1, o2, o3, o4, o5⟩, r2, k2⟩
  obtain ⟨ao1, cap1, rfl⟩ := row_slice o1
  obtain ⟨ao2, cap2, rfl⟩ := row_slice o2
  obtain ⟨ao3, cap3, rfl⟩ := row_slice o4
  obtain ⟨ao4, cap4, rfl⟩ := row_slice o5
  simp only [Mes.cells] at o1 o2 o3 o4 o5 ⊢
  obtain ⟨n1, hn1⟩ : ∃ n1, x9.length = n1 := ⟨_, rfl⟩
  obtain ⟨n2, hn2⟩ : ∃ n2, x10.length = n2 := ⟨_, rfl⟩
  obtain ⟨n3, hn3⟩ : ∃ n3, x11.length = n3 := ⟨_, rfl⟩
  obtain ⟨n4, hn4⟩ : ∃ n4, x12.length = n4 := ⟨_, rfl⟩
  simp only [hn1, hn2, hn3, hn4] at o1 o2 o4 o5 ⊢
  have HN1 := hide hn1
  have HN2 := hide hn2
  have HN3 := hide hn3
  have HN4 := hide hn4
  have O1 := hide o1
  have O2 := hide o2
  have O3 := hide o3
  have O4 := hide o4
  have O5 := hide o5
  have B2 := hide ((unhide B1).trans k2.below)
  have HQ2 := hide (k2.block (unhide HQ1) (by decide))
  have R2 := hide (r2.alloc (.cells #[.int .i64 x0, .int .i64 x1, .int .i64 x2, .int .i64 x3, .int .i64 x4, .int .i64 x5, .int .i64 x6, .int .i64 x7, .bool x8, .slice ao1 n1 cap1, .slice ao2 n2 cap2, .slice ao3 n3 cap3, .slice ao4 n4 cap4] 50))
  have z2 : w.heap.size + 2 ≤ w2.heap.size := Nat.le_trans z1 k2.size
  clear r2 k2 R1 HQ1 B1 C2 o1 o2 o3 o4 o5 hn1 hn2 hn3 hn4
  have E3 := hide (rg_end (unhide R2))
  rw [unhide HF] at E3
  go_wp2_with fail
  refine (unhide E3).mono ?_
  rintro e w4 ⟨rfl, r4, k4⟩
  have b24 : Below w.heap.size w2 w4 := ((Below.refl _ w2).alloc (by omega) _).trans k4.below
  have B4 := hide ((unhide B2).trans b24)
  have ht4 := k4.block (heap_alloc_new w2 (.cells #[.int .i64 x0, .int .i64 x1, .int .i64 x2, .int .i64 x3, .int .i64 x4, .int .i64 x5, .int .i64 x6, .int .i64 x7, .bool x8, .slice ao1 n1 cap1, .slice ao2 n2 cap2, .slice ao3 n3 cap3, .slice ao4 n4 cap4] 50)) (by decide)
  have hq4 := k4.block (((Below.heap_alloc w2 (.cells #[.int .i64 x0, .int .i64 x1, .int .i64 x2, .int .i64 x3, .int .i64 x4, .int .i64 x5, .int .i64 x6, .int .i64 x7, .bool x8, .slice ao1 n1 cap1, .slice ao2 n2 cap2, .slice ao3 n3 cap3, .slice ao4 n4 cap4] 50) _ (by omega))).trans (unhide HQ2)) (by decide)
  have G4 := hide ((unhide S1).2.1.below ((unhide R2).2.2.2.trans k4).below (by have := unhide ZG; omega))
  have z4 : w2.heap.size + 1 ≤ w4.heap.size := by have := k4.size; simp at this; exact this
  have FINo1 := hide (own_only (own_below (unhide O1) ((Below.refl _ w2).alloc (Nat.le_refl _) _)) k4 (by decide))
  have FINo2 := hide (own_only (own_below (unhide O2) ((Below.refl _ w2).alloc (Nat.le_refl _) _)) k4 (by decide))
  have FINo3 := hide (((unhide O3).only (Only.of_below (ts := [357]) ((Below.refl _ w2).alloc (Nat.le_refl _) (.cells #[.int .i64 x0, .int .i64 x1, .int .i64 x2, .int .i64 x3, .int .i64 x4, .int .i64 x5, .int .i64 x6, .int .i64 x7, .bool x8, .slice ao1 n1 cap1, .slice ao2 n2 cap2, .slice ao3 n3 cap3, .slice ao4 n4 cap4] 50)) (Nat.le_refl _)) (by decide)).only k4 (by decide))
  have FINo4 := hide (own_only (own_below (unhide O4) ((Below.refl _ w2).alloc (Nat.le_refl _) _)) k4 (by decide))
  have FINo5 := hide (own_only (own_below (unhide O5) ((Below.refl _ w2).alloc (Nat.le_refl _) _)) k4 (by decide))
  obtain ⟨ev, hp4, _, herr, _⟩ := r4.1
  have e2 : w4.cell? ⟨w.heap.size + 1, 2, none⟩ = some ev := (cell_of_block hp4).trans rfl
  have a0 : w4.cell? ⟨w2.heap.size, 0, none⟩ = some (.int .i64 x0) := (cell_of_block ht4).trans rfl
  have a1 : w4.cell? ⟨w2.heap.size, 1, none⟩ = some (.int .i64 x1) := (cell_of_block ht4).trans rfl
  have a2 : w4.cell? ⟨w2.heap.size, 2, none⟩ = some (.int .i64 x2) := (cell_of_block ht4).trans rfl
  have a3 : w4.cell? ⟨w2.heap.size, 3, none⟩ = some (.int .i64 x3) := (cell_of_block ht4).trans rfl
  have a4 : w4.cell? ⟨w2.heap.size, 4, none⟩ = some (.int .i64 x4) := (cell_of_block ht4).trans rfl
  have a5 : w4.cell? ⟨w2.heap.size, 5, none⟩ = some (.int .i64 x5) := (cell_of_block ht4).trans rfl
  have a6 : w4.cell? ⟨w2.heap.size, 6, none⟩ = some (.int .i64 x6) := (cell_of_block ht4).trans rfl
  have a7 : w4.cell? ⟨w2.heap.size, 7, none⟩ = some (.int .i64 x7) := (cell_of_block ht4).trans rfl
  have a8 : w4.cell? ⟨w2.heap.size, 8, none⟩ = some (.bool x8) := (cell_of_block ht4).trans rfl
  have a9 : w4.cell? ⟨w2.heap.size, 9, none⟩ = some (.slice ao1 n1 cap1) := (cell_of_block ht4).trans rfl
  have a10 : w4.cell? ⟨w2.heap.size, 10, none⟩ = some (.slice ao2 n2 cap2) := (cell_of_block ht4).trans rfl
  have a11 : w4.cell? ⟨w2.heap.size, 11, none⟩ = some (.slice ao3 n3 cap3) := (cell_of_block ht4).trans rfl
  have a12 : w4.cell? ⟨w2.heap.size, 12, none⟩ = some (.slice ao4 n4 cap4) := (cell_of_block ht4).trans rfl
  have c0 : w4.cell? ⟨w.heap.size, 0, none⟩ = some (.int .i64 0) := (cell_of_block hq4).trans rfl
  have c1 : w4.cell? ⟨w.heap.size, 1, none⟩ = some (.int .i64 0) := (cell_of_block hq4).trans rfl
  have c2 : w4.cell? ⟨w.heap.size, 2, none⟩ = some (.int .i64 0) := (cell_of_block hq4).trans rfl
  have c3 : w4.cell? ⟨w.heap.size, 3, none⟩ = some (.int .i64 0) := (cell_of_block hq4).trans rfl
  have c4 : w4.cell? ⟨w.heap.size, 4, none⟩ = some (.int .i64 0) := (cell_of_block hq4).trans rfl
  have c5 : w4.cell? ⟨w.heap.size, 5, none⟩ = some (.int .i64 0) := (cell_of_block hq4).trans rfl
  have c6 : w4.cell? ⟨w.heap.size, 6, none⟩ = some (.int .i64 0) := (cell_of_block hq4).trans rfl
  have c7 : w4.cell? ⟨w.heap.size, 7, none⟩ = some (.int .i64 0) := (cell_of_block hq4).trans rfl
  have c8 : w4.cell? ⟨w.heap.size, 8, none⟩ = some (.bool false) := (cell_of_block hq4).trans rfl
  have c9 : w4.cell? ⟨w.heap.size, 9, none⟩ = some (.slice none 0 0) := (cell_of_block hq4).trans rfl
  have c10 : w4.cell? ⟨w.heap.size, 10, none⟩ = some (.slice none 0 0) := (cell_of_block hq4).trans rfl
  have c11 : w4.cell? ⟨w.heap.size, 11, none⟩ = some (.slice none 0 0) := (cell_of_block hq4).trans rfl
  have c12 : w4.cell? ⟨w.heap.size, 12, none⟩ = some (.slice none 0 0) := (cell_of_block hq4).trans rfl
  have f4 : ∀ i, w4.frozen? ⟨w.heap.size, i, none⟩ = false := fun i => free_of_block hq4
  have HQ4 := hide hq4
  simp only at herr
  clear k4 b24 ht4 hq4 hp4 r4 R2 E3 HQ2 B2
  by_cases hz : fe = 0
  · subst hz
    obtain rfl := herr.none
    clear herr
    go_wp2
    obtain ⟨y0, hx⟩ : ∃ x : World, x = w4.setCell ⟨w.heap.size, 0, none⟩ (.int .i64 x0) := ⟨_, rfl⟩
    rw [← hx]
    have p0 : Only w.heap.size [50] w4 y0 ∧ y0.heap[w.heap.size]? = some (.cells #[.int .i64 x0, .int .i64 0, .int .i64 0, .int .i64 0, .int .i64 0, .int .i64 0, .int .i64 0, .int .i64 0, .bool false, .slice none 0 0, .slice none 0 0, .slice none 0 0, .slice none 0 0] 50 (0, 0)) := by rw [hx]; exact set_one ⟨Only.refl _ _ _, unhide HQ4⟩ (Nat.le_refl _) (by simp) 0 _
    clear hx
    obtain ⟨y1, hx⟩ : ∃ x : World, x = y0.setCell ⟨w.heap.size, 1, none⟩ (.int .i64 x1) := ⟨_, rfl⟩
    rw [← hx]
    have p1 : Only w.heap.size [50] w4 y1 ∧ y1.heap[w.heap.size]? = some (.cells #[.int .i64 x0, .int .i64 x1, .int .i64 0, .int .i64 0, .int .i64 0, .int .i64 0, .int .i64 0, .int .i64 0, .bool false, .slice none 0 0, .slice none 0 0, .slice none 0 0, .slice none 0 0] 50 (0, 0)) := by rw [hx]; exact set_one p0 (Nat.le_refl _) (by simp) 1 _
    clear hx
    obtain ⟨y2, hx⟩ : ∃ x : World, x = y1.setCell ⟨w.heap.size, 2, none⟩ (.int .i64 x2) := ⟨_, rfl⟩
    rw [← hx]
    have p2 : Only w.heap.size [50] w4 y2 ∧ y2.heap[w.heap.size]? = some (.cells #[.int .i64 x0, .int .i64 x1, .int .i64 x2, .int .i64 0, .int .i64 0, .int .i64 0, .int .i64 0, .int .i64 0, .bool false, .slice none 0 0, .slice none 0 0, .slice none 0 0, .slice none 0 0] 50 (0, 0)) := by rw [hx]; exact set_one p1 (Nat.le_refl _) (by simp) 2 _
    clear hx
    obtain ⟨y3, hx⟩ : ∃ x : World, x = y2.setCell ⟨w.heap.size, 3, none⟩ (.int .i64 x3) := ⟨_, rfl⟩
    rw [← hx]
    have p3 : Only w.heap.size [50] w4 y3 ∧ y3.heap[w.heap.size]? = some (.cells #[.int .i64 x0, .int .i64 x1, .int .i64 x2, .int .i64 x3, .int .i64 0, .int .i64 0, .int .i64 0, .int .i64 0, .bool false, .slice none 0 0, .slice none 0 0, .slice none 0 0, .slice none 0 0] 50 (0, 0)) := by rw [hx]; exact set_one p2 (Nat.le_refl _) (by simp) 3 _
    clear hx
    obtain ⟨y4, hx⟩ : ∃ x : World, x = y3.setCell ⟨w.heap.size, 4, none⟩ (.int .i64 x4) := ⟨_, rfl⟩
    rw [← hx]
    have p4 : Only w.heap.size [50] w4 y4 ∧ y4.heap[w.heap.size]? = some (.cells #[.int .i64 x0, .int .i64 x1, .int .i64 x2, .int .i64 x3, .int .i64 x4, .int .i64 0, .int .i64 0, .int .i64 0, .bool false, .slice none 0 0, .slice none 0 0, .slice none 0 0, .slice none 0 0] 50 (0, 0)) := by rw [hx]; exact set_one p3 (Nat.le_refl _) (by simp) 4 _
    clear hx
    obtain ⟨y5, hx⟩ : ∃ x : World, x = y4.setCell ⟨w.heap.size, 5, none⟩ (.int .i64 x5) := ⟨_, rfl⟩
    rw [← hx]
    have p5 : Only w.heap.size [50] w4 y5 ∧ y5.heap[w.heap.size]? = some (.cells #[.int .i64 x0, .int .i64 x1, .int .i64 x2, .int .i64 x3, .int .i64 x4, .int .i64 x5, .int .i64 0, .int .i64 0, .bool false, .slice none 0 0, .slice none 0 0, .slice none 0 0, .slice none 0 0] 50 (0, 0)) := by rw [hx]; exact set_one p4 (Nat.le_refl _) (by simp) 5 _
    clear hx
    obtain ⟨y6, hx⟩ : ∃ x : World, x = y5.setCell ⟨w.heap.size, 6, none⟩ (.int .i64 x6) := ⟨_, rfl⟩
    rw [← hx]
    have p6 : Only w.heap.size [50] w4 y6 ∧ y6.heap[w.heap.size]? = some (.cells #[.int .i64 x0, .int .i64 x1, .int .i64 x2, .int .i64 x3, .int .i64 x4, .int .i64 x5, .int .i64 x6, .int .i64 0, .bool false, .slice none 0 0, .slice none 0 0, .slice none 0 0, .slice none 0 0] 50 (0, 0)) := by rw [hx]; exact set_one p5 (Nat.le_refl _) (by simp) 6 _
    clear hx
    obtain ⟨y7, hx⟩ : ∃ x : World, x = y6.setCell ⟨w.heap.size, 7, none⟩ (.int .i64 x7) := ⟨_, rfl⟩
    rw [← hx]
    have p7 : Only w.heap.size [50] w4 y7 ∧ y7.heap[w.heap.size]? = some (.cells #[.int .i64 x0, .int .i64 x1, .int .i64 x2, .int .i64 x3, .int .i64 x4, .int .i64 x5, .int .i64 x6, .int .i64 x7, .bool false, .slice none 0 0, .slice none 0 0, .slice none 0 0, .slice none 0 0] 50 (0, 0)) := by rw [hx]; exact set_one p6 (Nat.le_refl _) (by simp) 7 _
    clear hx
    obtain ⟨y8, hx⟩ : ∃ x : World, x = y7.setCell ⟨w.heap.size, 8, none⟩ (.bool x8) := ⟨_, rfl⟩
    rw [← hx]
    have p8 : Only w.heap.size [50] w4 y8 ∧ y8.heap[w.heap.size]? = some (.cells #[.int .i64 x0, .int .i64 x1, .int .i64 x2, .int .i64 x3, .int .i64 x4, .int .i64 x5, .int .i64 x6, .int .i64 x7, .bool x8, .slice none 0 0, .slice none 0 0, .slice none 0 0, .slice none 0 0] 50 (0, 0)) := by rw [hx]; exact set_one p7 (Nat.le_refl _) (by simp) 8 _
    clear hx
    obtain ⟨y9, hx⟩ : ∃ x : World, x = y8.setCell ⟨w.heap.size, 9, none⟩ (.slice ao1 n1 cap1) := ⟨_, rfl⟩
    rw [← hx]
    have p9 : Only w.heap.size [50] w4 y9 ∧ y9.heap[w.heap.size]? = some (.cells #[.int .i64 x0, .int .i64 x1, .int .i64 x2, .int .i64 x3, .int .i64 x4, .int .i64 x5, .int .i64 x6, .int .i64 x7, .bool x8, .slice ao1 n1 cap1, .slice none 0 0, .slice none 0 0, .slice none 0 0] 50 (0, 0)) := by rw [hx]; exact set_one p8 (Nat.le_refl _) (by simp) 9 _
    clear hx
    obtain ⟨y10, hx⟩ : ∃ x : World, x = y9.setCell ⟨w.heap.size, 10, none⟩ (.slice ao2 n2 cap2) := ⟨_, rfl⟩
    rw [← hx]
    have p10 : Only w.heap.size [50] w4 y10 ∧ y10.heap[w.heap.size]? = some (.cells #[.int .i64 x0, .int .i64 x1, .int .i64 x2, .int .i64 x3, .int .i64 x4, .int .i64 x5, .int .i64 x6, .int .i64 x7, .bool x8, .slice ao1 n1 cap1, .slice ao2 n2 cap2, .slice none 0 0, .slice none 0 0] 50 (0, 0)) := by rw [hx]; exact set_one p9 (Nat.le_refl _) (by simp) 10 _
    clear hx
    obtain ⟨y11, hx⟩ : ∃ x : World, x = y10.setCell ⟨w.heap.size, 11, none⟩ (.slice ao3 n3 cap3) := ⟨_, rfl⟩
    rw [← hx]
    have p11 : Only w.heap.size [50] w4 y11 ∧ y11.heap[w.heap.size]? = some (.cells #[.int .i64 x0, .int .i64 x1, .int .i64 x2, .int .i64 x3, .int .i64 x4, .int .i64 x5, .int .i64 x6, .int .i64 x7, .bool x8, .slice ao1 n1 cap1, .slice ao2 n2 cap2, .slice ao3 n3 cap3, .slice none 0 0] 50 (0, 0)) := by rw [hx]; exact set_one p10 (Nat.le_refl _) (by simp) 11 _
    clear hx
    obtain ⟨y12, hx⟩ : ∃ x : World, x = y11.setCell ⟨w.heap.size, 12, none⟩ (.slice ao4 n4 cap4) := ⟨_, rfl⟩
    rw [← hx]
    have p12 : Only w.heap.size [50] w4 y12 ∧ y12.heap[w.heap.size]? = some (.cells #[.int .i64 x0, .int .i64 x1, .int .i64 x2, .int .i64 x3, .int .i64 x4, .int .i64 x5, .int .i64 x6, .int .i64 x7, .bool x8, .slice ao1 n1 cap1, .slice ao2 n2 cap2, .slice ao3 n3 cap3, .slice ao4 n4 cap4] 50 (0, 0)) := by rw [hx]; exact set_one p11 (Nat.le_refl _) (by simp) 12 _
    clear hx
    clear a0 c0 a1 c1 a2 c2 a3 c3 a4 c4 a5 c5 a6 c6 a7 c7 a8 c8 a9 c9 a10 c10 a11 c11 a12 c12 f4
    have c0 : y12.cell? ⟨w.heap.size, 0, none⟩ = some (.int .i64 x0) := (cell_of_block p12.2).trans rfl
    have c1 : y12.cell? ⟨w.heap.size, 1, none⟩ = some (.int .i64 x1) := (cell_of_block p12.2).trans rfl
    have c2 : y12.cell? ⟨w.heap.size, 2, none⟩ = some (.int .i64 x2) := (cell_of_block p12.2).trans rfl
    have c3 : y12.cell? ⟨w.heap.size, 3, none⟩ = some (.int .i64 x3) := (cell_of_block p12.2).trans rfl
    have c4 : y12.cell? ⟨w.heap.size, 4, none⟩ = some (.int .i64 x4) := (cell_of_block p12.2).trans rfl
    have c5 : y12.cell? ⟨w.heap.size, 5, none⟩ = some (.int .i64 x5) := (cell_of_block p12.2).trans rfl
    have c6 : y12.cell? ⟨w.heap.size, 6, none⟩ = some (.int .i64 x6) := (cell_of_block p12.2).trans rfl
    have c7 : y12.cell? ⟨w.heap.size, 7, none⟩ = some (.int .i64 x7) := (cell_of_block p12.2).trans rfl
    have c8 : y12.cell? ⟨w.heap.size, 8, none⟩ = some (.bool x8) := (cell_of_block p12.2).trans rfl
    have c9 : y12.cell? ⟨w.heap.size, 9, none⟩ = some (.slice ao1 n1 cap1) := (cell_of_block p12.2).trans rfl
    have c10 : y12.cell? ⟨w.heap.size, 10, none⟩ = some (.slice ao2 n2 cap2) := (cell_of_block p12.2).trans rfl
    have c11 : y12.cell? ⟨w.heap.size, 11, none⟩ = some (.slice ao3 n3 cap3) := (cell_of_block p12.2).trans rfl
    have c12 : y12.cell? ⟨w.heap.size, 12, none⟩ = some (.slice ao4 n4 cap4) := (cell_of_block p12.2).trans rfl
    refine bodyPost_ret (v := .tuple #[.agg #[.int .i64 x0, .int .i64 x1, .int .i64 x2, .int .i64 x3, .int .i64 x4, .int .i64 x5, .int .i64 x6, .int .i64 x7, .bool x8, .slice ao1 n1 cap1, .slice ao2 n2 cap2, .slice ao3 n3 cap3, .slice ao4 n4 cap4], .int .i64 0]) (by simp [results, Tryz.results271, go_sem, c0, c1, c2, c3, c4, c5, c6, c7, c8, c9, c10, c11, c12]) rfl ?_
    refine ⟨#[.int .i64 x0, .int .i64 x1, .int .i64 x2, .int .i64 x3, .int .i64 x4, .int .i64 x5, .int .i64 x6, .int .i64 x7, .bool x8, .slice ao1 n1 cap1, .slice ao2 n2 cap2, .slice ao3 n3 cap3, .slice ao4 n4 cap4], rfl, (unhide B4).trans p12.1.below, ?_⟩
    have FINo1 := hide (own_only (unhide FINo1) p12.1 (by decide))
    have FINo2 := hide (own_only (unhide FINo2) p12.1 (by decide))
    have FINo3 := hide ((unhide FINo3).only p12.1 (by decide))
    have FINo4 := hide (own_only (unhide FINo4) p12.1 (by decide))
    have FINo5 := hide (own_only (unhide FINo5) p12.1 (by decide))
    have FIN := (show MsgIs w.heap.size y12 #[Value.int .i64 x0, .int .i64 x1, .int .i64 x2, .int .i64 x3, .int .i64 x4, .int .i64 x5, .int .i64 x6, .int .i64 x7, .bool x8, .slice ao1 n1 cap1, .slice ao2 n2 cap2, .slice ao3 n3 cap3, .slice ao4 n4 cap4] (Mes.mk x0 x1 x2 x3 x4 x5 x6 x7 x8 x9 x10 x11 x12) from ⟨_, _, _, _, vs, rfl, by simp only [Mes.rows, unhide HN1, unhide HN2, unhide HN3, unhide HN4]; exact ⟨own_wide (unhide FINo1) (by omega), own_wide (unhide FINo2) (by omega), (unhide FINo3).wide (by omega), own_wide (unhide FINo4) (by omega), own_wide (unhide FINo5) (by omega)⟩⟩)
    first | exact ⟨fun _ => FIN, fun h => absurd rfl h⟩ | exact FIN | exact ⟨FIN, trivial⟩
  · have HZ := hide hz
    have HEN := hide herr.err
    rcases herr with ⟨h0, _⟩ | ⟨b, xb, _, rfl, hfb⟩
    · exact absurd h0 hz
    clear hz a0 a1 a2 a3 a4 a5 a6 a7 a8 a9 a10 a11 a12
    have hn5 := heap_alloc_new w4 (.cells #[.int .i64 0, .int .i64 0, .int .i64 0, .int .i64 0, .int .i64 0, .int .i64 0, .int .i64 0, .int .i64 0, .bool false, .slice none 0 0, .slice none 0 0, .slice none 0 0, .slice none 0 0] 50)
    have b45 : Below w4.heap.size w4 (w4.alloc (.cells #[.int .i64 0, .int .i64 0, .int .i64 0, .int .i64 0, .int .i64 0, .int .i64 0, .int .i64 0, .int .i64 0, .bool false, .slice none 0 0, .slice none 0 0, .slice none 0 0, .slice none 0 0] 50)) := (Below.refl _ w4).alloc (Nat.le_refl _) _
    obtain ⟨w5, hw5⟩ : ∃ w5, w4.alloc (.cells #[.int .i64 0, .int .i64 0, .int .i64 0, .int .i64 0, .int .i64 0, .int .i64 0, .int .i64 0, .int .i64 0, .bool false, .slice none 0 0, .slice none 0 0, .slice none 0 0, .slice none 0 0] 50) = w5 := ⟨_, rfl⟩
    have HW5 := hide hw5
    rw [hw5] at hn5 b45
    have z5 : w4.heap.size + 1 ≤ w5.heap.size := by rw [← hw5]; simp
    have hq5 := (b45.block w.heap.size (by omega)).trans (unhide HQ4)
    have hp5 : w5.cell? ⟨w.heap.size + 1, 2, none⟩ = some (.iface 313 (.pointer (some ⟨b, 0, none⟩))) := by rw [b45.cell (by simp only; omega)]; exact e2
    have G5 := hide ((unhide G4).below (b45.mono (Nat.le_refl _)) (by have := unhide ZG; omega))
    have HE5 : Hid (Err w5 (.iface 313 (.pointer (some ⟨b, 0, none⟩))) fe) := ErrB.err (Or.inr ⟨b, xb, unhide HZ, rfl, (b45.block b (heap_lt hfb)).trans hfb⟩)
    have B5 := hide ((unhide B4).trans (b45.mono (by omega)))
    have N5 := hide (number_any (.iface 313 (.pointer (some ⟨b, 0, none⟩))) fe w5.drew ((unhide G5).below (drew_below w5) (by have := unhide ZG; omega)) (ErrB.err (ErrB.only (Or.inr ⟨b, xb, unhide HZ, rfl, (b45.block b (heap_lt hfb)).trans hfb⟩) (Only.of_below (ts := []) (drew_below w5) (Nat.le_refl _)) (by simp))))
    clear hfb
    have HN5 := hide hn5
    have HQ5 := hide hq5
    have m5 : ∀ w6, Below w5.drew.heap.size w5.drew w6 → w6.heap[w4.heap.size]? = some (.cells #[.int .i64 0, .int .i64 0, .int .i64 0, .int .i64 0, .int .i64 0, .int .i64 0, .int .i64 0, .int .i64 0, .bool false, .slice none 0 0, .slice none 0 0, .slice none 0 0, .slice none 0 0] 50 (0, 0)) ∧ w6.heap[w.heap.size]? = some (.cells #[.int .i64 0, .int .i64 0, .int .i64 0, .int .i64 0, .int .i64 0, .int .i64 0, .int .i64 0, .int .i64 0, .bool false, .slice none 0 0, .slice none 0 0, .slice none 0 0, .slice none 0 0] 50 (0, 0)) := fun w6 hb => ⟨(hb.block _ (show w4.heap.size < w5.heap.size by omega)).trans (unhide HN5), (hb.block _ (show w.heap.size < w5.heap.size by omega)).trans (unhide HQ5)⟩
    have M5 := hide m5
    clear hw5 b45 m5 hn5 hq5 c0 c1 c2 c3 c4 c5 c6 c7 c8 c9 c10 c11 c12 f4
    go_wp2_with fail
    rw [unhide HW5]
    clear e2
    have n0 : w5.drew.cell? ⟨w4.heap.size, 0, none⟩ = some (.int .i64 0) := (cell_of_block (unhide HN5)).trans rfl
    have n1 : w5.drew.cell? ⟨w4.heap.size, 1, none⟩ = some (.int .i64 0) := (cell_of_block (unhide HN5)).trans rfl
    have n2 : w5.drew.cell? ⟨w4.heap.size, 2, none⟩ = some (.int .i64 0) := (cell_of_block (unhide HN5)).trans rfl
    have n3 : w5.drew.cell? ⟨w4.heap.size, 3, none⟩ = some (.int .i64 0) := (cell_of_block (unhide HN5)).trans rfl
    have n4 : w5.drew.cell? ⟨w4.heap.size, 4, none⟩ = some (.int .i64 0) := (cell_of_block (unhide HN5)).trans rfl
    have n5 : w5.drew.cell? ⟨w4.heap.size, 5, none⟩ = some (.int .i64 0) := (cell_of_block (unhide HN5)).trans rfl
    have n6 : w5.drew.cell? ⟨w4.heap.size, 6, none⟩ = some (.int .i64 0) := (cell_of_block (unhide HN5)).trans rfl
    have n7 : w5.drew.cell? ⟨w4.heap.size, 7, none⟩ = some (.int .i64 0) := (cell_of_block (unhide HN5)).trans rfl
    have n8 : w5.drew.cell? ⟨w4.heap.size, 8, none⟩ = some (.bool false) := (cell_of_block (unhide HN5)).trans rfl
    have n9 : w5.drew.cell? ⟨w4.heap.size, 9, none⟩ = some (.slice none 0 0) := (cell_of_block (unhide HN5)).trans rfl
    have n10 : w5.drew.cell? ⟨w4.heap.size, 10, none⟩ = some (.slice none 0 0) := (cell_of_block (unhide HN5)).trans rfl
    have n11 : w5.drew.cell? ⟨w4.heap.size, 11, none⟩ = some (.slice none 0 0) := (cell_of_block (unhide HN5)).trans rfl
    have n12 : w5.drew.cell? ⟨w4.heap.size, 12, none⟩ = some (.slice none 0 0) := (cell_of_block (unhide HN5)).trans rfl
    have e5 : w5.drew.cell? ⟨w.heap.size + 1, 2, none⟩ = some (.iface 313 (.pointer (some ⟨b, 0, none⟩))) := hp5
    clear hp5
    go_region_with (go_at_call 219; refine (unhide N5).mono ?_; rintro e w6 ⟨rfl, b6⟩; have h6 := unhide M5 w6 b6; have q0 : w6.cell? ⟨w4.heap.size, 0, none⟩ = some (.int .i64 0) := (cell_of_block h6.1).trans rfl; have q1 : w6.cell? ⟨w4.heap.size, 1, none⟩ = some (.int .i64 0) := (cell_of_block h6.1).trans rfl; have q2 : w6.cell? ⟨w4.heap.size, 2, none⟩ = some (.int .i64 0) := (cell_of_block h6.1).trans rfl; have q3 : w6.cell? ⟨w4.heap.size, 3, none⟩ = some (.int .i64 0) := (cell_of_block h6.1).trans rfl; have q4 : w6.cell? ⟨w4.heap.size, 4, none⟩ = some (.int .i64 0) := (cell_of_block h6.1).trans rfl; have q5 : w6.cell? ⟨w4.heap.size, 5, none⟩ = some (.int .i64 0) := (cell_of_block h6.1).trans rfl; have q6 : w6.cell? ⟨w4.heap.size, 6, none⟩ = some (.int .i64 0) := (cell_of_block h6.1).trans rfl; have q7 : w6.cell? ⟨w4.heap.size, 7, none⟩ = some (.int .i64 0) := (cell_of_block h6.1).trans rfl; have q8 : w6.cell? ⟨w4.heap.size, 8, none⟩ = some (.bool false) := (cell_of_block h6.1).trans rfl; have q9 : w6.cell? ⟨w4.heap.size, 9, none⟩ = some (.slice none 0 0) := (cell_of_block h6.1).trans rfl; have q10 : w6.cell? ⟨w4.heap.size, 10, none⟩ = some (.slice none 0 0) := (cell_of_block h6.1).trans rfl; have q11 : w6.cell? ⟨w4.heap.size, 11, none⟩ = some (.slice none 0 0) := (cell_of_block h6.1).trans rfl; have q12 : w6.cell? ⟨w4.heap.size, 12, none⟩ = some (.slice none 0 0) := (cell_of_block h6.1).trans rfl; have c0 : w6.cell? ⟨w.heap.size, 0, none⟩ = some (.int .i64 0) := (cell_of_block h6.2).trans rfl; have c1 : w6.cell? ⟨w.heap.size, 1, none⟩ = some (.int .i64 0) := (cell_of_block h6.2).trans rfl; have c2 : w6.cell? ⟨w.heap.size, 2, none⟩ = some (.int .i64 0) := (cell_of_block h6.2).trans rfl; have c3 : w6.cell? ⟨w.heap.size, 3, none⟩ = some (.int .i64 0) := (cell_of_block h6.2).trans rfl; have c4 : w6.cell? ⟨w.heap.size, 4, none⟩ = some (.int .i64 0) := (cell_of_block h6.2).trans rfl; have c5 : w6.cell? ⟨w.heap.size, 5, none⟩ = some (.int .i64 0) := (cell_of_block h6.2).trans rfl; have c6 : w6.cell? ⟨w.heap.size, 6, none⟩ = some (.int .i64 0) := (cell_of_block h6.2).trans rfl; have c7 : w6.cell? ⟨w.heap.size, 7, none⟩ = some (.int .i64 0) := (cell_of_block h6.2).trans rfl; have c8 : w6.cell? ⟨w.heap.size, 8, none⟩ = some (.bool false) := (cell_of_block h6.2).trans rfl; have c9 : w6.cell? ⟨w.heap.size, 9, none⟩ = some (.slice none 0 0) := (cell_of_block h6.2).trans rfl; have c10 : w6.cell? ⟨w.heap.size, 10, none⟩ = some (.slice none 0 0) := (cell_of_block h6.2).trans rfl; have c11 : w6.cell? ⟨w.heap.size, 11, none⟩ = some (.slice none 0 0) := (cell_of_block h6.2).trans rfl; have c12 : w6.cell? ⟨w.heap.size, 12, none⟩ = some (.slice none 0 0) := (cell_of_block h6.2).trans rfl; have f6 : ∀ i, w6.frozen? ⟨w.heap.size, i, none⟩ = false := fun i => free_of_block h6.2; have H6 := hide h6.2; have B6 := hide b6; clear h6 b6)
    all_goals go_wp2
    all_goals
      obtain ⟨y0, hx⟩ : ∃ x : World, x = w6.setCell ⟨w.heap.size, 0, none⟩ (.int .i64 0) := ⟨_, rfl⟩
      rw [← hx]
      have p0 : Only w.heap.size [50] w6 y0 ∧ y0.heap[w.heap.size]? = some (.cells #[.int .i64 0, .int .i64 0, .int .i64 0, .int .i64 0, .int .i64 0, .int .i64 0, .int .i64 0, .int .i64 0, .bool false, .slice none 0 0, .slice none 0 0, .slice none 0 0, .slice none 0 0] 50 (0, 0)) := by rw [hx]; exact set_one ⟨Only.refl _ _ _, unhide H6⟩ (Nat.le_refl _) (by simp) 0 _
      clear hx
      obtain ⟨y1, hx⟩ : ∃ x : World, x = y0.setCell ⟨w.heap.size, 1, none⟩ (.int .i64 0) := ⟨_, rfl⟩
      rw [← hx]
      have p1 : Only w.heap.size [50] w6 y1 ∧ y1.heap[w.heap.size]? = some (.cells #[.int .i64 0, .int .i64 0, .int .i64 0, .int .i64 0, .int .i64 0, .int .i64 0, .int .i64 0, .int .i64 0, .bool false, .slice none 0 0, .slice none 0 0, .slice none 0 0, .slice none 0 0] 50 (0, 0)) := by rw [hx]; exact set_one p0 (Nat.le_refl _) (by simp) 1 _
      clear hx
      obtain ⟨y2, hx⟩ : ∃ x : World, x = y1.setCell ⟨w.heap.size, 2, none⟩ (.int .i64 0) := ⟨_, rfl⟩
      rw [← hx]
      have p2 : Only w.heap.size [50] w6 y2 ∧ y2.heap[w.heap.size]? = some (.cells #[.int .i64 0, .int .i64 0, .int .i64 0, .int .i64 0, .int .i64 0, .int .i64 0, .int .i64 0, .int .i64 0, .bool false, .slice none 0 0, .slice none 0 0, .slice none 0 0, .slice none 0 0] 50 (0, 0)) := by rw [hx]; exact set_one p1 (Nat.le_refl _) (by simp) 2 _
      clear hx
      obtain ⟨y3, hx⟩ : ∃ x : World, x = y2.setCell ⟨w.heap.size, 3, none⟩ (.int .i64 0) := ⟨_, rfl⟩
      rw [← hx]
      have p3 : Only w.heap.size [50] w6 y3 ∧ y3.heap[w.heap.size]? = some (.cells #[.int .i64 0, .int .i64 0, .int .i64 0, .int .i64 0, .int .i64 0, .int .i64 0, .int .i64 0, .int .i64 0, .bool false, .slice none 0 0, .slice none 0 0, .slice none 0 0, .slice none 0 0] 50 (0, 0)) := by rw [hx]; exact set_one p2 (Nat.le_refl _) (by simp) 3 _
      clear hx
      obtain ⟨y4, hx⟩ : ∃ x : World, x = y3.setCell ⟨w.heap.size, 4, none⟩ (.int .i64 0) := ⟨_, rfl⟩
      rw [← hx]
      have p4 : Only w.heap.size [50] w6 y4 ∧ y4.heap[w.heap.size]? = some (.cells #[.int .i64 0, .int .i64 0, .int .i64 0, .int .i64 0, .int .i64 0, .int .i64 0, .int .i64 0, .int .i64 0, .bool false, .slice none 0 0, .slice none 0 0, .slice none 0 0, .slice none 0 0] 50 (0, 0)) := by rw [hx]; exact set_one p3 (Nat.le_refl _) (by simp) 4 _
      clear hx
      obtain ⟨y5, hx⟩ : ∃ x : World, x = y4.setCell ⟨w.heap.size, 5, none⟩ (.int .i64 0) := ⟨_, rfl⟩
      rw [← hx]
      have p5 : Only w.heap.size [50] w6 y5 ∧ y5.heap[w.heap.size]? = some (.cells #[.int .i64 0, .int .i64 0, .int .i64 0, .int .i64 0, .int .i64 0, .int .i64 0, .int .i64 0, .int .i64 0, .bool false, .slice none 0 0, .slice none 0 0, .slice none 0 0, .slice none 0 0] 50 (0, 0)) := by rw [hx]; exact set_one p4 (Nat.le_refl _) (by simp) 5 _
      clear hx
      obtain ⟨y6, hx⟩ : ∃ x : World, x = y5.setCell ⟨w.heap.size, 6, none⟩ (.int .i64 0) := ⟨_, rfl⟩
      rw [← hx]
      have p6 : Only w.heap.size [50] w6 y6 ∧ y6.heap[w.heap.size]? = some (.cells #[.int .i64 0, .int .i64 0, .int .i64 0, .int .i64 0, .int .i64 0, .int .i64 0, .int .i64 0, .int .i64 0, .bool false, .slice none 0 0, .slice none 0 0, .slice none 0 0, .slice none 0 0] 50 (0, 0)) := by rw [hx]; exact set_one p5 (Nat.le_refl _) (by simp) 6 _
      clear hx
      obtain ⟨y7, hx⟩ : ∃ x : World, x = y6.setCell ⟨w.heap.size, 7, none⟩ (.int .i64 0) := ⟨_, rfl⟩
      rw [← hx]
      have p7 : Only w.heap.size [50] w6 y7 ∧ y7.heap[w.heap.size]? = some (.cells #[.int .i64 0, .int .i64 0, .int .i64 0, .int .i64 0, .int .i64 0, .int .i64 0, .int .i64 0, .int .i64 0, .bool false, .slice none 0 0, .slice none 0 0, .slice none 0 0, .slice none 0 0] 50 (0, 0)) := by rw [hx]; exact set_one p6 (Nat.le_refl _) (by simp) 7 _
      clear hx
      obtain ⟨y8, hx⟩ : ∃ x : World, x = y7.setCell ⟨w.heap.size, 8, none⟩ (.bool false) := ⟨_, rfl⟩
      rw [← hx]
      have p8 : Only w.heap.size [50] w6 y8 ∧ y8.heap[w.heap.size]? = some (.cells #[.int .i64 0, .int .i64 0, .int .i64 0, .int .i64 0, .int .i64 0, .int .i64 0, .int .i64 0, .int .i64 0, .bool false, .slice none 0 0, .slice none 0 0, .slice none 0 0, .slice none 0 0] 50 (0, 0)) := by rw [hx]; exact set_one p7 (Nat.le_refl _) (by simp) 8 _
      clear hx
      obtain ⟨y9, hx⟩ : ∃ x : World, x = y8.setCell ⟨w.heap.size, 9, none⟩ (.slice none 0 0) := ⟨_, rfl⟩
      rw [← hx]
      have p9 : Only w.heap.size [50] w6 y9 ∧ y9.heap[w.heap.size]? = some (.cells #[.int .i64 0, .int .i64 0, .int .i64 0, .int .i64 0, .int .i64 0, .int .i64 0, .int .i64 0, .int .i64 0, .bool false, .slice none 0 0, .slice none 0 0, .slice none 0 0, .slice none 0 0] 50 (0, 0)) := by rw [hx]; exact set_one p8 (Nat.le_refl _) (by simp) 9 _
      clear hx
      obtain ⟨y10, hx⟩ : ∃ x : World, x = y9.setCell ⟨w.heap.size, 10, none⟩ (.slice none 0 0) := ⟨_, rfl⟩
      rw [← hx]
      have p10 : Only w.heap.size [50] w6 y10 ∧ y10.heap[w.heap.size]? = some (.cells #[.int .i64 0, .int .i64 0, .int .i64 0, .int .i64 0, .int .i64 0, .int .i64 0, .int .i64 0, .int .i64 0, .bool false, .slice none 0 0, .slice none 0 0, .slice none 0 0, .slice none 0 0] 50 (0, 0)) := by rw [hx]; exact set_one p9 (Nat.le_refl _) (by simp) 10 _
      clear hx
      obtain ⟨y11, hx⟩ : ∃ x : World, x = y10.setCell ⟨w.heap.size, 11, none⟩ (.slice none 0 0) := ⟨_, rfl⟩
      rw [← hx]
      have p11 : Only w.heap.size [50] w6 y11 ∧ y11.heap[w.heap.size]? = some (.cells #[.int .i64 0, .int .i64 0, .int .i64 0, .int .i64 0, .int .i64 0, .int .i64 0, .int .i64 0, .int .i64 0, .bool false, .slice none 0 0, .slice none 0 0, .slice none 0 0, .slice none 0 0] 50 (0, 0)) := by rw [hx]; exact set_one p10 (Nat.le_refl _) (by simp) 11 _
      clear hx
      obtain ⟨y12, hx⟩ : ∃ x : World, x = y11.setCell ⟨w.heap.size, 12, none⟩ (.slice none 0 0) := ⟨_, rfl⟩
      rw [← hx]
      have p12 : Only w.heap.size [50] w6 y12 ∧ y12.heap[w.heap.size]? = some (.cells #[.int .i64 0, .int .i64 0, .int .i64 0, .int .i64 0, .int .i64 0, .int .i64 0, .int .i64 0, .int .i64 0, .bool false, .slice none 0 0, .slice none 0 0, .slice none 0 0, .slice none 0 0] 50 (0, 0)) := by rw [hx]; exact set_one p11 (Nat.le_refl _) (by simp) 12 _
      clear hx
      clear q0 c0 n0 q1 c1 n1 q2 c2 n2 q3 c3 n3 q4 c4 n4 q5 c5 n5 q6 c6 n6 q7 c7 n7 q8 c8 n8 q9 c9 n9 q10 c10 n10 q11 c11 n11 q12 c12 n12 f6
      have c0 : y12.cell? ⟨w.heap.size, 0, none⟩ = some (.int .i64 0) := (cell_of_block p12.2).trans rfl
      have c1 : y12.cell? ⟨w.heap.size, 1, none⟩ = some (.int .i64 0) := (cell_of_block p12.2).trans rfl
      have c2 : y12.cell? ⟨w.heap.size, 2, none⟩ = some (.int .i64 0) := (cell_of_block p12.2).trans rfl
      have c3 : y12.cell? ⟨w.heap.size, 3, none⟩ = some (.int .i64 0) := (cell_of_block p12.2).trans rfl
      have c4 : y12.cell? ⟨w.heap.size, 4, none⟩ = some (.int .i64 0) := (cell_of_block p12.2).trans rfl
      have c5 : y12.cell? ⟨w.heap.size, 5, none⟩ = some (.int .i64 0) := (cell_of_block p12.2).trans rfl
      have c6 : y12.cell? ⟨w.heap.size, 6, none⟩ = some (.int .i64 0) := (cell_of_block p12.2).trans rfl
      have c7 : y12.cell? ⟨w.heap.size, 7, none⟩ = some (.int .i64 0) := (cell_of_block p12.2).trans rfl
      have c8 : y12.cell? ⟨w.heap.size, 8, none⟩ = some (.bool false) := (cell_of_block p12.2).trans rfl
      have c9 : y12.cell? ⟨w.heap.size, 9, none⟩ = some (.slice none 0 0) := (cell_of_block p12.2).trans rfl
      have c10 : y12.cell? ⟨w.heap.size, 10, none⟩ = some (.slice none 0 0) := (cell_of_block p12.2).trans rfl
      have c11 : y12.cell? ⟨w.heap.size, 11, none⟩ = some (.slice none 0 0) := (cell_of_block p12.2).trans rfl
      have c12 : y12.cell? ⟨w.heap.size, 12, none⟩ = some (.slice none 0 0) := (cell_of_block p12.2).trans rfl
      refine bodyPost_ret (v := .tuple #[.agg #[.int .i64 0, .int .i64 0, .int .i64 0, .int .i64 0, .int .i64 0, .int .i64 0, .int .i64 0, .int .i64 0, .bool false, .slice none 0 0, .slice none 0 0, .slice none 0 0, .slice none 0 0], .int .i64 (fe : Int)]) (by simp [results, Tryz.results271, go_sem, c0, c1, c2, c3, c4, c5, c6, c7, c8, c9, c10, c11, c12]) rfl ?_
      exact ⟨#[.int .i64 0, .int .i64 0, .int .i64 0, .int .i64 0, .int .i64 0, .int .i64 0, .int .i64 0, .int .i64 0, .bool false, .slice none 0 0, .slice none 0 0, .slice none 0 0, .slice none 0 0], rfl, (unhide B5).trans (((drew_below w5).mono (by omega)).trans (((unhide B6).mono (show w.heap.size ≤ w5.heap.size by omega)).trans p12.1.below)), fun h => absurd h (unhide HZ), fun _ => rfl⟩

set_option maxRecDepth 20000 in
set_option maxHeartbeats 4000000 in
/-- wire.ParseMsg. -/
theorem parseMsg_any (ao : Option Addr) (n cap : Nat) (bs : List Nat) (w : World) (hg : Given w ao n cap bs) (hS : Start w) :
    Calls Tryz.prog 227 #[.slice ao n cap] w fun e w' => ∃ cs, e = .returned (.tuple #[.agg cs, .int .i64 (((rend n (rmsg bs (0, 0)).2).2 : Nat) : Int)]) ∧ Below w.heap.size w w' ∧
      ((rend n (rmsg bs (0, 0)).2).2 = 0 → MsgIs w.heap.size w' cs (rmsg bs (0, 0)).1) ∧
      ((rend n (rmsg bs (0, 0)).2).2 ≠ 0 → cs = #[.int .i64 0, .int .i64 0, .int .i64 0, .int .i64 0, .int .i64 0, .int .i64 0, .int .i64 0, .int .i64 0, .bool false, .slice none 0 0, .slice none 0 0, .slice none 0 0, .slice none 0 0]) := by
  obtain ⟨w1, hw1⟩ : ∃ w1, w.alloc (.cells #[.int .i64 0, .int .i64 0, .int .i64 0, .int .i64 0, .int .i64 0, .int .i64 0, .int .i64 0, .int .i64 0, .bool false, .slice none 0 0, .slice none 0 0, .slice none 0 0, .slice none 0 0] 50) = w1 := ⟨_, rfl⟩
  have b1 : Below w.heap.size w w1 := by rw [← hw1]; exact (Below.refl _ w).alloc (Nat.le_refl _) _
  have hq1 : w1.heap[w.heap.size]? = some (.cells #[.int .i64 0, .int .i64 0, .int .i64 0, .int .i64 0, .int .i64 0, .int .i64 0, .int .i64 0, .int .i64 0, .bool false, .slice none 0 0, .slice none 0 0, .slice none 0 0, .slice none 0 0] 50 (0, 0)) := by rw [← hw1]; exact heap_alloc_new _ _
  have z1 : w.heap.size + 1 ≤ w1.heap.size := by rw [← hw1]; simp
  have C1 := hide (parseMsg ao n cap bs w1 (hg.below b1) (hS.below b1))
  have B1 := hide b1
  have HQ1 := hide hq1
  have HW1 := hide hw1
  clear b1 hq1 hw1 hS hg
  obtain ⟨X, hX⟩ : ∃ X, rmsg bs (0, 0) = X := ⟨_, rfl⟩
  rw [hX] at C1 ⊢
  clear hX
  obtain ⟨x, sx⟩ := X
  obtain ⟨F, hF⟩ : ∃ F, rend n sx = F := ⟨_, rfl⟩
  simp only [hF] at C1 ⊢
  clear hF
  obtain ⟨fp, fe⟩ := F
  simp only at C1 ⊢
  go_enter Tryz.func227, Tryz.ntmps227
  go_wp2_with fail
  rw [unhide HW1]
  clear HW1
  refine (unhide C1).mono ?_
  rintro e w2 ⟨cs, rfl, b2, h0, h1⟩
  have hq2 := (b2.block w.heap.size (by omega)).trans (unhide HQ1)
  have c0 : w2.cell? ⟨w.heap.size, 0, none⟩ = some (.int .i64 0) := (cell_of_block hq2).trans rfl
  have c1 : w2.cell? ⟨w.heap.size, 1, none⟩ = some (.int .i64 0) := (cell_of_block hq2).trans rfl
  have c2 : w2.cell? ⟨w.heap.size, 2, none⟩ = some (.int .i64 0) := (cell_of_block hq2).trans rfl
  have c3 : w2.cell? ⟨w.heap.size, 3, none⟩ = some (.int .i64 0) := (cell_of_block hq2).trans rfl
  have c4 : w2.cell? ⟨w.heap.size, 4, none⟩ = some (.int .i64 0) := (cell_of_block hq2).trans rfl
  have c5 : w2.cell? ⟨w.heap.size, 5, none⟩ = some (.int .i64 0) := (cell_of_block hq2).trans rfl
  have c6 : w2.cell? ⟨w.heap.size, 6, none⟩ = some (.int .i64 0) := (cell_of_block hq2).trans rfl
  have c7 : w2.cell? ⟨w.heap.size, 7, none⟩ = some (.int .i64 0) := (cell_of_block hq2).trans rfl
  have c8 : w2.cell? ⟨w.heap.size, 8, none⟩ = some (.bool false) := (cell_of_block hq2).trans rfl
  have c9 : w2.cell? ⟨w.heap.size, 9, none⟩ = some (.slice none 0 0) := (cell_of_block hq2).trans rfl
  have c10 : w2.cell? ⟨w.heap.size, 10, none⟩ = some (.slice none 0 0) := (cell_of_block hq2).trans rfl
  have c11 : w2.cell? ⟨w.heap.size, 11, none⟩ = some (.slice none 0 0) := (cell_of_block hq2).trans rfl
  have c12 : w2.cell? ⟨w.heap.size, 12, none⟩ = some (.slice none 0 0) := (cell_of_block hq2).trans rfl
  have f2 : ∀ i, w2.frozen? ⟨w.heap.size, i, none⟩ = false := fun i => free_of_block hq2
  have HQ2 := hide hq2
  have B2 := hide ((unhide B1).trans (b2.mono (by omega)))
  clear hq2 b2 C1 HQ1 B1
  by_cases hz : fe = 0
  · subst hz
    obtain ⟨u1, u2, u3, u4, vs, rfl, o1, o2, om, o3, o4⟩ := h0 rfl
    obtain ⟨a1, p1, rfl⟩ := row_slice o1
    obtain ⟨a2, p2, rfl⟩ := row_slice o2
    obtain ⟨a3, p3, rfl⟩ := row_slice o3
    obtain ⟨a4, p4, rfl⟩ := row_slice o4
    obtain ⟨l1, h1'⟩ : ∃ l, x.terms.length = l := ⟨_, rfl⟩
    obtain ⟨l2, h2'⟩ : ∃ l, x.ents.length = l := ⟨_, rfl⟩
    obtain ⟨l3, h3'⟩ : ∃ l, x.cold.length = l := ⟨_, rfl⟩
    obtain ⟨l4, h4'⟩ : ∃ l, x.cnew.length = l := ⟨_, rfl⟩
    simp only [Mes.cells, h1', h2', h3', h4'] at o1 o2 o3 o4 ⊢
    have O1 := hide o1
    have O2 := hide o2
    have O3 := hide o3
    have O4 := hide o4
    have OM := hide om
    have HL1 := hide h1'
    have HL2 := hide h2'
    have HL3 := hide h3'
    have HL4 := hide h4'
    clear o1 o2 o3 o4 om h1' h2' h3' h4' h0 h1
    go_wp2
    clear c0 c1 c2 c3 c4 c5 c6 c7 c8 c9 c10 c11 c12 f2
    obtain ⟨y0, hx⟩ : ∃ yy : World, yy = w2.setCell ⟨w.heap.size, 0, none⟩ (.int .i64 x.src) := ⟨_, rfl⟩
    rw [← hx]
    have P0 : Only w.heap.size [50] w2 y0 ∧ y0.heap[w.heap.size]? = some (.cells #[.int .i64 x.src, .int .i64 0, .int .i64 0, .int .i64 0, .int .i64 0, .int .i64 0, .int .i64 0, .int .i64 0, .bool false, .slice none 0 0, .slice none 0 0, .slice none 0 0, .slice none 0 0] 50 (0, 0)) := by rw [hx]; exact set_one ⟨Only.refl _ _ _, unhide HQ2⟩ (Nat.le_refl _) (by simp) 0 _
    clear hx
    obtain ⟨y1, hx⟩ : ∃ yy : World, yy = y0.setCell ⟨w.heap.size, 1, none⟩ (.int .i64 x.to') := ⟨_, rfl⟩
    rw [← hx]
    have P1 : Only w.heap.size [50] w2 y1 ∧ y1.heap[w.heap.size]? = some (.cells #[.int .i64 x.src, .int .i64 x.to', .int .i64 0, .int .i64 0, .int .i64 0, .int .i64 0, .int .i64 0, .int .i64 0, .bool false, .slice none 0 0, .slice none 0 0, .slice none 0 0, .slice none 0 0] 50 (0, 0)) := by rw [hx]; exact set_one P0 (Nat.le_refl _) (by simp) 1 _
    clear hx
    obtain ⟨y2, hx⟩ : ∃ yy : World, yy = y1.setCell ⟨w.heap.size, 2, none⟩ (.int .i64 x.gen) := ⟨_, rfl⟩
    rw [← hx]
    have P2 : Only w.heap.size [50] w2 y2 ∧ y2.heap[w.heap.size]? = some (.cells #[.int .i64 x.src, .int .i64 x.to', .int .i64 x.gen, .int .i64 0, .int .i64 0, .int .i64 0, .int .i64 0, .int .i64 0, .bool false, .slice none 0 0, .slice none 0 0, .slice none 0 0, .slice none 0 0] 50 (0, 0)) := by rw [hx]; exact set_one P1 (Nat.le_refl _) (by simp) 2 _
    clear hx
    obtain ⟨y3, hx⟩ : ∃ yy : World, yy = y2.setCell ⟨w.heap.size, 3, none⟩ (.int .i64 x.kind) := ⟨_, rfl⟩
    rw [← hx]
    have P3 : Only w.heap.size [50] w2 y3 ∧ y3.heap[w.heap.size]? = some (.cells #[.int .i64 x.src, .int .i64 x.to', .int .i64 x.gen, .int .i64 x.kind, .int .i64 0, .int .i64 0, .int .i64 0, .int .i64 0, .bool false, .slice none 0 0, .slice none 0 0, .slice none 0 0, .slice none 0 0] 50 (0, 0)) := by rw [hx]; exact set_one P2 (Nat.le_refl _) (by simp) 3 _
    clear hx
    obtain ⟨y4, hx⟩ : ∃ yy : World, yy = y3.setCell ⟨w.heap.size, 4, none⟩ (.int .i64 x.term) := ⟨_, rfl⟩
    rw [← hx]
    have P4 : Only w.heap.size [50] w2 y4 ∧ y4.heap[w.heap.size]? = some (.cells #[.int .i64 x.src, .int .i64 x.to', .int .i64 x.gen, .int .i64 x.kind, .int .i64 x.term, .int .i64 0, .int .i64 0, .int .i64 0, .bool false, .slice none 0 0, .slice none 0 0, .slice none 0 0, .slice none 0 0] 50 (0, 0)) := by rw [hx]; exact set_one P3 (Nat.le_refl _) (by simp) 4 _
    clear hx
    obtain ⟨y5, hx⟩ : ∃ yy : World, yy = y4.setCell ⟨w.heap.size, 5, none⟩ (.int .i64 x.index) := ⟨_, rfl⟩
    rw [← hx]
    have P5 : Only w.heap.size [50] w2 y5 ∧ y5.heap[w.heap.size]? = some (.cells #[.int .i64 x.src, .int .i64 x.to', .int .i64 x.gen, .int .i64 x.kind, .int .i64 x.term, .int .i64 x.index, .int .i64 0, .int .i64 0, .bool false, .slice none 0 0, .slice none 0 0, .slice none 0 0, .slice none 0 0] 50 (0, 0)) := by rw [hx]; exact set_one P4 (Nat.le_refl _) (by simp) 5 _
    clear hx
    obtain ⟨y6, hx⟩ : ∃ yy : World, yy = y5.setCell ⟨w.heap.size, 6, none⟩ (.int .i64 x.last) := ⟨_, rfl⟩
    rw [← hx]
    have P6 : Only w.heap.size [50] w2 y6 ∧ y6.heap[w.heap.size]? = some (.cells #[.int .i64 x.src, .int .i64 x.to', .int .i64 x.gen, .int .i64 x.kind, .int .i64 x.term, .int .i64 x.index, .int .i64 x.last, .int .i64 0, .bool false, .slice none 0 0, .slice none 0 0, .slice none 0 0, .slice none 0 0] 50 (0, 0)) := by rw [hx]; exact set_one P5 (Nat.le_refl _) (by simp) 6 _
    clear hx
    obtain ⟨y7, hx⟩ : ∃ yy : World, yy = y6.setCell ⟨w.heap.size, 7, none⟩ (.int .i64 x.commit) := ⟨_, rfl⟩
    rw [← hx]
    have P7 : Only w.heap.size [50] w2 y7 ∧ y7.heap[w.heap.size]? = some (.cells #[.int .i64 x.src, .int .i64 x.to', .int .i64 x.gen, .int .i64 x.kind, .int .i64 x.term, .int .i64 x.index, .int .i64 x.last, .int .i64 x.commit, .bool false, .slice none 0 0, .slice none 0 0, .slice none 0 0, .slice none 0 0] 50 (0, 0)) := by rw [hx]; exact set_one P6 (Nat.le_refl _) (by simp) 7 _
    clear hx
    obtain ⟨y8, hx⟩ : ∃ yy : World, yy = y7.setCell ⟨w.heap.size, 8, none⟩ (.bool x.yes) := ⟨_, rfl⟩
    rw [← hx]
    have P8 : Only w.heap.size [50] w2 y8 ∧ y8.heap[w.heap.size]? = some (.cells #[.int .i64 x.src, .int .i64 x.to', .int .i64 x.gen, .int .i64 x.kind, .int .i64 x.term, .int .i64 x.index, .int .i64 x.last, .int .i64 x.commit, .bool x.yes, .slice none 0 0, .slice none 0 0, .slice none 0 0, .slice none 0 0] 50 (0, 0)) := by rw [hx]; exact set_one P7 (Nat.le_refl _) (by simp) 8 _
    clear hx
    obtain ⟨y9, hx⟩ : ∃ yy : World, yy = y8.setCell ⟨w.heap.size, 9, none⟩ (.slice a1 l1 p1) := ⟨_, rfl⟩
    rw [← hx]
    have P9 : Only w.heap.size [50] w2 y9 ∧ y9.heap[w.heap.size]? = some (.cells #[.int .i64 x.src, .int .i64 x.to', .int .i64 x.gen, .int .i64 x.kind, .int .i64 x.term, .int .i64 x.index, .int .i64 x.last, .int .i64 x.commit, .bool x.yes, .slice a1 l1 p1, .slice none 0 0, .slice none 0 0, .slice none 0 0] 50 (0, 0)) := by rw [hx]; exact set_one P8 (Nat.le_refl _) (by simp) 9 _
    clear hx
    obtain ⟨y10, hx⟩ : ∃ yy : World, yy = y9.setCell ⟨w.heap.size, 10, none⟩ (.slice a2 l2 p2) := ⟨_, rfl⟩
    rw [← hx]
    have P10 : Only w.heap.size [50] w2 y10 ∧ y10.heap[w.heap.size]? = some (.cells #[.int .i64 x.src, .int .i64 x.to', .int .i64 x.gen, .int .i64 x.kind, .int .i64 x.term, .int .i64 x.index, .int .i64 x.last, .int .i64 x.commit, .bool x.yes, .slice a1 l1 p1, .slice a2 l2 p2, .slice none 0 0, .slice none 0 0] 50 (0, 0)) := by rw [hx]; exact set_one P9 (Nat.le_refl _) (by simp) 10 _
    clear hx
    obtain ⟨y11, hx⟩ : ∃ yy : World, yy = y10.setCell ⟨w.heap.size, 11, none⟩ (.slice a3 l3 p3) := ⟨_, rfl⟩
    rw [← hx]
    have P11 : Only w.heap.size [50] w2 y11 ∧ y11.heap[w.heap.size]? = some (.cells #[.int .i64 x.src, .int .i64 x.to', .int .i64 x.gen, .int .i64 x.kind, .int .i64 x.term, .int .i64 x.index, .int .i64 x.last, .int .i64 x.commit, .bool x.yes, .slice a1 l1 p1, .slice a2 l2 p2, .slice a3 l3 p3, .slice none 0 0] 50 (0, 0)) := by rw [hx]; exact set_one P10 (Nat.le_refl _) (by simp) 11 _
    clear hx
    obtain ⟨y12, hx⟩ : ∃ yy : World, yy = y11.setCell ⟨w.heap.size, 12, none⟩ (.slice a4 l4 p4) := ⟨_, rfl⟩
    rw [← hx]
    have P12 : Only w.heap.size [50] w2 y12 ∧ y12.heap[w.heap.size]? = some (.cells #[.int .i64 x.src, .int .i64 x.to', .int .i64 x.gen, .int .i64 x.kind, .int .i64 x.term, .int .i64 x.index, .int .i64 x.last, .int .i64 x.commit, .bool x.yes, .slice a1 l1 p1, .slice a2 l2 p2, .slice a3 l3 p3, .slice a4 l4 p4] 50 (0, 0)) := by rw [hx]; exact set_one P11 (Nat.le_refl _) (by simp) 12 _
    clear hx
    have c0 : y12.cell? ⟨w.heap.size, 0, none⟩ = some (.int .i64 x.src) := (cell_of_block P12.2).trans rfl
    have c1 : y12.cell? ⟨w.heap.size, 1, none⟩ = some (.int .i64 x.to') := (cell_of_block P12.2).trans rfl
    have c2 : y12.cell? ⟨w.heap.size, 2, none⟩ = some (.int .i64 x.gen) := (cell_of_block P12.2).trans rfl
    have c3 : y12.cell? ⟨w.heap.size, 3, none⟩ = some (.int .i64 x.kind) := (cell_of_block P12.2).trans rfl
    have c4 : y12.cell? ⟨w.heap.size, 4, none⟩ = some (.int .i64 x.term) := (cell_of_block P12.2).trans rfl
    have c5 : y12.cell? ⟨w.heap.size, 5, none⟩ = some (.int .i64 x.index) := (cell_of_block P12.2).trans rfl
    have c6 : y12.cell? ⟨w.heap.size, 6, none⟩ = some (.int .i64 x.last) := (cell_of_block P12.2).trans rfl
    have c7 : y12.cell? ⟨w.heap.size, 7, none⟩ = some (.int .i64 x.commit) := (cell_of_block P12.2).trans rfl
    have c8 : y12.cell? ⟨w.heap.size, 8, none⟩ = some (.bool x.yes) := (cell_of_block P12.2).trans rfl
    have c9 : y12.cell? ⟨w.heap.size, 9, none⟩ = some (.slice a1 l1 p1) := (cell_of_block P12.2).trans rfl
    have c10 : y12.cell? ⟨w.heap.size, 10, none⟩ = some (.slice a2 l2 p2) := (cell_of_block P12.2).trans rfl
    have c11 : y12.cell? ⟨w.heap.size, 11, none⟩ = some (.slice a3 l3 p3) := (cell_of_block P12.2).trans rfl
    have c12 : y12.cell? ⟨w.heap.size, 12, none⟩ = some (.slice a4 l4 p4) := (cell_of_block P12.2).trans rfl
    refine bodyPost_ret (v := .tuple #[.agg #[.int .i64 x.src, .int .i64 x.to', .int .i64 x.gen, .int .i64 x.kind, .int .i64 x.term, .int .i64 x.index, .int .i64 x.last, .int .i64 x.commit, .bool x.yes, .slice a1 l1 p1, .slice a2 l2 p2, .slice a3 l3 p3, .slice a4 l4 p4], .int .i64 0]) (by simp [results, Tryz.results227, go_sem, c0, c1, c2, c3, c4, c5, c6, c7, c8, c9, c10, c11, c12]) rfl ?_
    have O1 := hide (own_only (unhide O1) P12.1 (by decide))
    have O2 := hide (own_only (unhide O2) P12.1 (by decide))
    have O3 := hide (own_only (unhide O3) P12.1 (by decide))
    have O4 := hide (own_only (unhide O4) P12.1 (by decide))
    have OM := hide ((unhide OM).only P12.1 (by decide))
    have FIN : MsgIs w.heap.size y12 #[.int .i64 x.src, .int .i64 x.to', .int .i64 x.gen, .int .i64 x.kind, .int .i64 x.term, .int .i64 x.index, .int .i64 x.last, .int .i64 x.commit, .bool x.yes, .slice a1 l1 p1, .slice a2 l2 p2, .slice a3 l3 p3, .slice a4 l4 p4] x := ⟨.slice a1 l1 p1, .slice a2 l2 p2, .slice a3 l3 p3, .slice a4 l4 p4, vs, rfl, by simp only [Mes.rows, unhide HL1, unhide HL2, unhide HL3, unhide HL4]; exact ⟨own_wide (unhide O1) (by omega), own_wide (unhide O2) (by omega), (unhide OM).wide (by omega), own_wide (unhide O3) (by omega), own_wide (unhide O4) (by omega)⟩⟩
    refine ⟨#[.int .i64 x.src, .int .i64 x.to', .int .i64 x.gen, .int .i64 x.kind, .int .i64 x.term, .int .i64 x.index, .int .i64 x.last, .int .i64 x.commit, .bool x.yes, .slice a1 l1 p1, .slice a2 l2 p2, .slice a3 l3 p3, .slice a4 l4 p4], rfl, (unhide B2).trans P12.1.below, ?_⟩
    first | exact ⟨fun _ => FIN, fun h => absurd rfl h⟩ | exact FIN | exact ⟨FIN, trivial⟩
  · obtain rfl := h1 hz
    have HZ := hide hz
    clear h0 h1 hz
    go_wp2
    clear c0 c1 c2 c3 c4 c5 c6 c7 c8 c9 c10 c11 c12 f2
    obtain ⟨y0, hx⟩ : ∃ yy : World, yy = w2.setCell ⟨w.heap.size, 0, none⟩ (.int .i64 0) := ⟨_, rfl⟩
    rw [← hx]
    have P0 : Only w.heap.size [50] w2 y0 ∧ y0.heap[w.heap.size]? = some (.cells #[.int .i64 0, .int .i64 0, .int .i64 0, .int .i64 0, .int .i64 0, .int .i64 0, .int .i64 0, .int .i64 0, .bool false, .slice none 0 0, .slice none 0 0, .slice none 0 0, .slice none 0 0] 50 (0, 0)) := by rw [hx]; exact set_one ⟨Only.refl _ _ _, unhide HQ2⟩ (Nat.le_refl _) (by simp) 0 _
    clear hx
    obtain ⟨y1, hx⟩ : ∃ yy : World, yy = y0.setCell ⟨w.heap.size, 1, none⟩ (.int .i64 0) := ⟨_, rfl⟩
    rw [← hx]
    have P1 : Only w.heap.size [50] w2 y1 ∧ y1.heap[w.heap.size]? = some (.cells #[.int .i64 0, .int .i64 0, .int .i64 0, .int .i64 0, .int .i64 0, .int .i64 0, .int .i64 0, .int .i64 0, .bool false, .slice none 0 0, .slice none 0 0, .slice none 0 0, .slice none 0 0] 50 (0, 0)) := by rw [hx]; exact set_one P0 (Nat.le_refl _) (by simp) 1 _
    clear hx
    obtain ⟨y2, hx⟩ : ∃ yy : World, yy = y1.setCell ⟨w.heap.size, 2, none⟩ (.int .i64 0) := ⟨_, rfl⟩
    rw [← hx]
    have P2 : Only w.heap.size [50] w2 y2 ∧ y2.heap[w.heap.size]? = some (.cells #[.int .i64 0, .int .i64 0, .int .i64 0, .int .i64 0, .int .i64 0, .int .i64 0, .int .i64 0, .int .i64 0, .bool false, .slice none 0 0, .slice none 0 0, .slice none 0 0, .slice none 0 0] 50 (0, 0)) := by rw [hx]; exact set_one P1 (Nat.le_refl _) (by simp) 2 _
    clear hx
    obtain ⟨y3, hx⟩ : ∃ yy : World, yy = y2.setCell ⟨w.heap.size, 3, none⟩ (.int .i64 0) := ⟨_, rfl⟩
    rw [← hx]
    have P3 : Only w.heap.size [50] w2 y3 ∧ y3.heap[w.heap.size]? = some (.cells #[.int .i64 0, .int .i64 0, .int .i64 0, .int .i64 0, .int .i64 0, .int .i64 0, .int .i64 0, .int .i64 0, .bool false, .slice none 0 0, .slice none 0 0, .slice none 0 0, .slice none 0 0] 50 (0, 0)) := by rw [hx]; exact set_one P2 (Nat.le_refl _) (by simp) 3 _
    clear hx
    obtain ⟨y4, hx⟩ : ∃ yy : World, yy = y3.setCell ⟨w.heap.size, 4, none⟩ (.int .i64 0) := ⟨_, rfl⟩
    rw [← hx]
    have P4 : Only w.heap.size [50] w2 y4 ∧ y4.heap[w.heap.size]? = some (.cells #[.int .i64 0, .int .i64 0, .int .i64 0, .int .i64 0, .int .i64 0, .int .i64 0, .int .i64 0, .int .i64 0, .bool false, .slice none 0 0, .slice none 0 0, .slice none 0 0, .slice none 0 0] 50 (0, 0)) := by rw [hx]; exact set_one P3 (Nat.le_refl _) (by simp) 4 _
    clear hx
    obtain ⟨y5, hx⟩ : ∃ yy : World, yy = y4.setCell ⟨w.heap.size, 5, none⟩ (.int .i64 0) := ⟨_, rfl⟩
    rw [← hx]
    have P5 : Only w.heap.size [50] w2 y5 ∧ y5.heap[w.heap.size]? = some (.cells #[.int .i64 0, .int .i64 0, .int .i64 0, .int .i64 0, .int .i64 0, .int .i64 0, .int .i64 0, .int .i64 0, .bool false, .slice none 0 0, .slice none 0 0, .slice none 0 0, .slice none 0 0] 50 (0, 0)) := by rw [hx]; exact set_one P4 (Nat.le_refl _) (by simp) 5 _
    clear hx
    obtain ⟨y6, hx⟩ : ∃ yy : World, yy = y5.setCell ⟨w.heap.size, 6, none⟩ (.int .i64 0) := ⟨_, rfl⟩
    rw [← hx]
    have P6 : Only w.heap.size [50] w2 y6 ∧ y6.heap[w.heap.size]? = some (.cells #[.int .i64 0, .int .i64 0, .int .i64 0, .int .i64 0, .int .i64 0, .int .i64 0, .int .i64 0, .int .i64 0, .bool false, .slice none 0 0, .slice none 0 0, .slice none 0 0, .slice none 0 0] 50 (0, 0)) := by rw [hx]; exact set_one P5 (Nat.le_refl _) (by simp) 6 _
    clear hx
    obtain ⟨y7, hx⟩ : ∃ yy : World, yy = y6.setCell ⟨w.heap.size, 7, none⟩ (.int .i64 0) := ⟨_, rfl⟩
    rw [← hx]
    have P7 : Only w.heap.size [50] w2 y7 ∧ y7.heap[w.heap.size]? = some (.cells #[.int .i64 0, .int .i64 0, .int .i64 0, .int .i64 0, .int .i64 0, .int .i64 0, .int .i64 0, .int .i64 0, .bool false, .slice none 0 0, .slice none 0 0, .slice none 0 0, .slice none 0 0] 50 (0, 0)) := by rw [hx]; exact set_one P6 (Nat.le_refl _) (by simp) 7 _
    clear hx
    obtain ⟨y8, hx⟩ : ∃ yy : World, yy = y7.setCell ⟨w.heap.size, 8, none⟩ (.bool false) := ⟨_, rfl⟩
    rw [← hx]
    have P8 : Only w.heap.size [50] w2 y8 ∧ y8.heap[w.heap.size]? = some (.cells #[.int .i64 0, .int .i64 0, .int .i64 0, .int .i64 0, .int .i64 0, .int .i64 0, .int .i64 0, .int .i64 0, .bool false, .slice none 0 0, .slice none 0 0, .slice none 0 0, .slice none 0 0] 50 (0, 0)) := by rw [hx]; exact set_one P7 (Nat.le_refl _) (by simp) 8 _
    clear hx
    obtain ⟨y9, hx⟩ : ∃ yy : World, yy = y8.setCell ⟨w.heap.size, 9, none⟩ (.slice none 0 0) := ⟨_, rfl⟩
    rw [← hx]
    have P9 : Only w.heap.size [50] w2 y9 ∧ y9.heap[w.heap.size]? = some (.cells #[.int .i64 0, .int .i64 0, .int .i64 0, .int .i64 0, .int .i64 0, .int .i64 0, .int .i64 0, .int .i64 0, .bool false, .slice none 0 0, .slice none 0 0, .slice none 0 0, .slice none 0 0] 50 (0, 0)) := by rw [hx]; exact set_one P8 (Nat.le_refl _) (by simp) 9 _
    clear hx
    obtain ⟨y10, hx⟩ : ∃ yy : World, yy = y9.setCell ⟨w.heap.size, 10, none⟩ (.slice none 0 0) := ⟨_, rfl⟩
    rw [← hx]
    have P10 : Only w.heap.size [50] w2 y10 ∧ y10.heap[w.heap.size]? = some (.cells #[.int .i64 0, .int .i64 0, .int .i64 0, .int .i64 0, .int .i64 0, .int .i64 0, .int .i64 0, .int .i64 0, .bool false, .slice none 0 0, .slice none 0 0, .slice none 0 0, .slice none 0 0] 50 (0, 0)) := by rw [hx]; exact set_one P9 (Nat.le_refl _) (by simp) 10 _
    clear hx
    obtain ⟨y11, hx⟩ : ∃ yy : World, yy = y10.setCell ⟨w.heap.size, 11, none⟩ (.slice none 0 0) := ⟨_, rfl⟩
    rw [← hx]
    have P11 : Only w.heap.size [50] w2 y11 ∧ y11.heap[w.heap.size]? = some (.cells #[.int .i64 0, .int .i64 0, .int .i64 0, .int .i64 0, .int .i64 0, .int .i64 0, .int .i64 0, .int .i64 0, .bool false, .slice none 0 0, .slice none 0 0, .slice none 0 0, .slice none 0 0] 50 (0, 0)) := by rw [hx]; exact set_one P10 (Nat.le_refl _) (by simp) 11 _
    clear hx
    obtain ⟨y12, hx⟩ : ∃ yy : World, yy = y11.setCell ⟨w.heap.size, 12, none⟩ (.slice none 0 0) := ⟨_, rfl⟩
    rw [← hx]
    have P12 : Only w.heap.size [50] w2 y12 ∧ y12.heap[w.heap.size]? = some (.cells #[.int .i64 0, .int .i64 0, .int .i64 0, .int .i64 0, .int .i64 0, .int .i64 0, .int .i64 0, .int .i64 0, .bool false, .slice none 0 0, .slice none 0 0, .slice none 0 0, .slice none 0 0] 50 (0, 0)) := by rw [hx]; exact set_one P11 (Nat.le_refl _) (by simp) 12 _
    clear hx
    have c0 : y12.cell? ⟨w.heap.size, 0, none⟩ = some (.int .i64 0) := (cell_of_block P12.2).trans rfl
    have c1 : y12.cell? ⟨w.heap.size, 1, none⟩ = some (.int .i64 0) := (cell_of_block P12.2).trans rfl
    have c2 : y12.cell? ⟨w.heap.size, 2, none⟩ = some (.int .i64 0) := (cell_of_block P12.2).trans rfl
    have c3 : y12.cell? ⟨w.heap.size, 3, none⟩ = some (.int .i64 0) := (cell_of_block P12.2).trans rfl
    have c4 : y12.cell? ⟨w.heap.size, 4, none⟩ = some (.int .i64 0) := (cell_of_block P12.2).trans rfl
    have c5 : y12.cell? ⟨w.heap.size, 5, none⟩ = some (.int .i64 0) := (cell_of_block P12.2).trans rfl
    have c6 : y12.cell? ⟨w.heap.size, 6, none⟩ = some (.int .i64 0) := (cell_of_block P12.2).trans rfl
    have c7 : y12.cell? ⟨w.heap.size, 7, none⟩ = some (.int .i64 0) := (cell_of_block P12.2).trans rfl
    have c8 : y12.cell? ⟨w.heap.size, 8, none⟩ = some (.bool false) := (cell_of_block P12.2).trans rfl
    have c9 : y12.cell? ⟨w.heap.size, 9, none⟩ = some (.slice none 0 0) := (cell_of_block P12.2).trans rfl
    have c10 : y12.cell? ⟨w.heap.size, 10, none⟩ = some (.slice none 0 0) := (cell_of_block P12.2).trans rfl
    have c11 : y12.cell? ⟨w.heap.size, 11, none⟩ = some (.slice none 0 0) := (cell_of_block P12.2).trans rfl
    have c12 : y12.cell? ⟨w.heap.size, 12, none⟩ = some (.slice none 0 0) := (cell_of_block P12.2).trans rfl
    refine bodyPost_ret (v := .tuple #[.agg #[.int .i64 0, .int .i64 0, .int .i64 0, .int .i64 0, .int .i64 0, .int .i64 0, .int .i64 0, .int .i64 0, .bool false, .slice none 0 0, .slice none 0 0, .slice none 0 0, .slice none 0 0], .int .i64 (fe : Int)]) (by simp [results, Tryz.results227, go_sem, c0, c1, c2, c3, c4, c5, c6, c7, c8, c9, c10, c11, c12]) rfl ?_
    exact ⟨#[.int .i64 0, .int .i64 0, .int .i64 0, .int .i64 0, .int .i64 0, .int .i64 0, .int .i64 0, .int .i64 0, .bool false, .slice none 0 0, .slice none 0 0, .slice none 0 0, .slice none 0 0], rfl, (unhide B2).trans P12.1.below, fun h => absurd h (unhide HZ), fun _ => rfl⟩
end Go.Proofs.YtjplhiflemmkfaaGreatDoor

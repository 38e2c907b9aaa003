/- wire.parse of an entry, of a configuration, of a message: contracts. -/
import Derived.Test.YtjcllplgiffmgaaDoorReaderQ
namespace Go.Proofs.YtjcllplgiffmgaaDoor
open Go.RowKit
/-- these cells are that configuration. -/
def ConfIs (base : Nat) (w : World) (cs : Array Value) (x : List Int × List Int) : Prop := ∃ v1 v2, cs = #[v1, v2] ∧ w.ownsRow base 3 1 v1 x.1.length (i64s x.1) ∧ w.ownsRow base 3 1 v2 x.2.length (i64s x.2)

set_option maxRecDepth 20000 in
set_option maxHeartbeats 4000000 in
theorem parseConfig (ao : Option Addr) (n cap : Nat) (bs : List Nat) (w : World) (hg : Given w ao n cap bs) (hS : Start w) :
    Calls Tryd.prog 55 #[.slice ao n cap, .func (.func 56) #[] #[]] w fun e w' => ∃ cs, e = .returned (.tuple #[.agg cs, .int .i64 (((rend n (rconfig bs (0, 0)).2).2 : Nat) : Int)]) ∧ Below w.heap.size w w' ∧
      ((rend n (rconfig bs (0, 0)).2).2 = 0 → ConfIs w.heap.size w' cs (rconfig bs (0, 0)).1) ∧
      ((rend n (rconfig bs (0, 0)).2).2 ≠ 0 → cs = #[.slice none 0 0, .slice none 0 0]) := by
  obtain ⟨w1, hw1⟩ : ∃ w1, (w.alloc (.cells #[.slice none 0 0, .slice none 0 0] 39)).alloc (.cells #[.slice ao n cap, .int .i64 0, .nilIface] 113) = w1 := ⟨_, rfl⟩
  have b1 : Below w.heap.size w w1 := by rw [← hw1]; exact ((Below.refl _ w).alloc (Nat.le_refl _) _).alloc (by simp) _
  have hp1 : w1.heap[w.heap.size + 1]? = some (.cells #[.slice ao n cap, .int .i64 0, .nilIface] 113 (0, 0)) := by
    rw [← hw1]
    have h := heap_alloc_new (w.alloc (.cells #[.slice none 0 0, .slice none 0 0] 39)) (.cells #[.slice ao n cap, .int .i64 0, .nilIface] 113)
    simpa using h
  have hq1 : w1.heap[w.heap.size]? = some (.cells #[.slice none 0 0, .slice none 0 0] 39 (0, 0)) := by
    rw [← hw1]
    exact (Below.heap_alloc _ _ _ (by simp)).trans (heap_alloc_new _ _)
  have z1 : w.heap.size + 2 ≤ w1.heap.size := by rw [← hw1]; simp
  have R1 : Hid (Rg w.heap.size w1 w1 (w.heap.size + 1) ao n cap bs (0, 0)) := Rg.start (s := (0, 0)) ⟨_, hp1, by omega, Or.inl ⟨rfl, rfl⟩, Nat.zero_le _⟩ (hg.src b1) b1.size
  have S1 := hide (hS.below b1)
  have ZG := hide hS.2.2
  have B1 := hide b1
  have HQ1 := hide hq1
  have HW1 := hide hw1
  clear b1 hp1 hq1 hw1 hS hg
  have C2 := hide (rg_config (unhide R1))
  obtain ⟨X, hX⟩ : ∃ X, rconfig bs (0, 0) = X := ⟨_, rfl⟩
  rw [hX] at C2 ⊢
  clear hX
  obtain ⟨⟨x0, x1⟩, sx⟩ := X
  obtain ⟨F, hF⟩ : ∃ F, rend n sx = F := ⟨_, rfl⟩
  simp only [hF]
  have HF := hide hF
  clear hF
  obtain ⟨fp, fe⟩ := F
  simp only at C2 ⊢
  go_enter Tryd.func55, Tryd.ntmps55
  go_wp2_with fail
  rw [unhide HW1]
  clear HW1
  refine (unhide C2).mono ?_
  rintro e w2 ⟨ao1, cap1, ao2, cap2, rfl, o1, o2, r2, k2⟩
  obtain ⟨n0, hn0⟩ : ∃ n0, x0.length = n0 := ⟨_, rfl⟩
  obtain ⟨n1, hn1⟩ : ∃ n1, x1.length = n1 := ⟨_, rfl⟩
  simp only [hn0, hn1] at o1 o2 ⊢
  have HN0 := hide hn0
  have HN1 := hide hn1
  have O1 := hide o1
  have O2 := hide o2
  have B2 := hide ((unhide B1).trans k2.below)
  have HQ2 := hide (k2.block (unhide HQ1) (by decide))
  have R2 := hide (r2.alloc (.cells #[.slice ao1 n0 cap1, .slice ao2 n1 cap2] 39))
  have z2 : w.heap.size + 2 ≤ w2.heap.size := Nat.le_trans z1 k2.size
  clear r2 k2 R1 HQ1 B1 C2 o1 o2 hn0 hn1
  have E3 := hide (rg_end (unhide R2))
  rw [unhide HF] at E3
  go_wp2_with fail
  refine (unhide E3).mono ?_
  rintro e w4 ⟨rfl, r4, k4⟩
  have b24 : Below w.heap.size w2 w4 := ((Below.refl _ w2).alloc (by omega) _).trans k4.below
  have B4 := hide ((unhide B2).trans b24)
  have ht4 := k4.block (heap_alloc_new w2 (.cells #[.slice ao1 n0 cap1, .slice ao2 n1 cap2] 39)) (by decide)
  have hq4 := k4.block (((Below.heap_alloc w2 (.cells #[.slice ao1 n0 cap1, .slice ao2 n1 cap2] 39) _ (by omega))).trans (unhide HQ2)) (by decide)
  have G4 := hide ((unhide S1).2.1.below ((unhide R2).2.2.2.trans k4).below (by have := unhide ZG; omega))
  have z4 : w2.heap.size + 1 ≤ w4.heap.size := by have := k4.size; simp at this; exact this
  have FINo1 := hide (own_only (own_below (unhide O1) ((Below.refl _ w2).alloc (Nat.le_refl _) _)) k4 (by decide))
  have FINo2 := hide (own_only (own_below (unhide O2) ((Below.refl _ w2).alloc (Nat.le_refl _) _)) k4 (by decide))
  obtain ⟨ev, hp4, _, herr, _⟩ := r4.1
  have e2 : w4.cell? ⟨w.heap.size + 1, 2, none⟩ = some ev := (cell_of_block hp4).trans rfl
  have a0 : w4.cell? ⟨w2.heap.size, 0, none⟩ = some (.slice ao1 n0 cap1) := (cell_of_block ht4).trans rfl
  have a1 : w4.cell? ⟨w2.heap.size, 1, none⟩ = some (.slice ao2 n1 cap2) := (cell_of_block ht4).trans rfl
  have c0 : w4.cell? ⟨w.heap.size, 0, none⟩ = some (.slice none 0 0) := (cell_of_block hq4).trans rfl
  have c1 : w4.cell? ⟨w.heap.size, 1, none⟩ = some (.slice none 0 0) := (cell_of_block hq4).trans rfl
  have f4 : ∀ i, w4.frozen? ⟨w.heap.size, i, none⟩ = false := fun i => free_of_block hq4
  have HQ4 := hide hq4
  simp only at herr
  clear k4 b24 ht4 hq4 hp4 r4 R2 E3 HQ2 B2
  by_cases hz : fe = 0
  · subst hz
    obtain rfl := herr.none
    clear herr
    go_wp2
    obtain ⟨y0, hx⟩ : ∃ x : World, x = w4.setCell ⟨w.heap.size, 0, none⟩ (.slice ao1 n0 cap1) := ⟨_, rfl⟩
    rw [← hx]
    have p0 : Only w.heap.size [39] w4 y0 ∧ y0.heap[w.heap.size]? = some (.cells #[.slice ao1 n0 cap1, .slice none 0 0] 39 (0, 0)) := by rw [hx]; exact set_one ⟨Only.refl _ _ _, unhide HQ4⟩ (Nat.le_refl _) (by simp) 0 _
    clear hx
    obtain ⟨y1, hx⟩ : ∃ x : World, x = y0.setCell ⟨w.heap.size, 1, none⟩ (.slice ao2 n1 cap2) := ⟨_, rfl⟩
    rw [← hx]
    have p1 : Only w.heap.size [39] w4 y1 ∧ y1.heap[w.heap.size]? = some (.cells #[.slice ao1 n0 cap1, .slice ao2 n1 cap2] 39 (0, 0)) := by rw [hx]; exact set_one p0 (Nat.le_refl _) (by simp) 1 _
    clear hx
    clear a0 c0 a1 c1 f4
    have c0 : y1.cell? ⟨w.heap.size, 0, none⟩ = some (.slice ao1 n0 cap1) := (cell_of_block p1.2).trans rfl
    have c1 : y1.cell? ⟨w.heap.size, 1, none⟩ = some (.slice ao2 n1 cap2) := (cell_of_block p1.2).trans rfl
    refine bodyPost_ret (v := .tuple #[.agg #[.slice ao1 n0 cap1, .slice ao2 n1 cap2], .int .i64 0]) (by simp [results, Tryd.results55, go_sem, c0, c1]) rfl ?_
    refine ⟨#[.slice ao1 n0 cap1, .slice ao2 n1 cap2], rfl, (unhide B4).trans p1.1.below, ?_⟩
    have FINo1 := hide (own_only (unhide FINo1) p1.1 (by decide))
    have FINo2 := hide (own_only (unhide FINo2) p1.1 (by decide))
    have FIN := (show ConfIs w.heap.size y1 #[.slice ao1 n0 cap1, .slice ao2 n1 cap2] (x0, x1) from ⟨_, _, rfl, by rw [unhide HN0]; exact own_wide (unhide FINo1) (by omega), by rw [unhide HN1]; exact own_wide (unhide FINo2) (by omega)⟩)
    first | exact ⟨fun _ => FIN, fun h => absurd rfl h⟩ | exact FIN | exact ⟨FIN, trivial⟩
  · have HZ := hide hz
    have HEN := hide herr.err
    rcases herr with ⟨h0, _⟩ | ⟨b, xb, _, rfl, hfb⟩
    · exact absurd h0 hz
    clear hz a0 a1
    have hn5 := heap_alloc_new w4 (.cells #[.slice none 0 0, .slice none 0 0] 39)
    have b45 : Below w4.heap.size w4 (w4.alloc (.cells #[.slice none 0 0, .slice none 0 0] 39)) := (Below.refl _ w4).alloc (Nat.le_refl _) _
    obtain ⟨w5, hw5⟩ : ∃ w5, w4.alloc (.cells #[.slice none 0 0, .slice none 0 0] 39) = w5 := ⟨_, rfl⟩
    have HW5 := hide hw5
    rw [hw5] at hn5 b45
    have z5 : w4.heap.size + 1 ≤ w5.heap.size := by rw [← hw5]; simp
    have hq5 := (b45.block w.heap.size (by omega)).trans (unhide HQ4)
    have hp5 : w5.cell? ⟨w.heap.size + 1, 2, none⟩ = some (.iface 124 (.pointer (some ⟨b, 0, none⟩))) := by rw [b45.cell (by simp only; omega)]; exact e2
    have G5 := hide ((unhide G4).below (b45.mono (Nat.le_refl _)) (by have := unhide ZG; omega))
    have HE5 : Hid (Err w5 (.iface 124 (.pointer (some ⟨b, 0, none⟩))) fe) := ErrB.err (Or.inr ⟨b, xb, unhide HZ, rfl, (b45.block b (heap_lt hfb)).trans hfb⟩)
    have B5 := hide ((unhide B4).trans (b45.mono (by omega)))
    have N5 := hide (number_any (.iface 124 (.pointer (some ⟨b, 0, none⟩))) fe w5.drew ((unhide G5).below (drew_below w5) (by have := unhide ZG; omega)) (ErrB.err (ErrB.only (Or.inr ⟨b, xb, unhide HZ, rfl, (b45.block b (heap_lt hfb)).trans hfb⟩) (Only.of_below (ts := []) (drew_below w5) (Nat.le_refl _)) (by simp))))
    clear hfb
    have HN5 := hide hn5
    have HQ5 := hide hq5
    have m5 : ∀ w6, Below w5.drew.heap.size w5.drew w6 → w6.heap[w4.heap.size]? = some (.cells #[.slice none 0 0, .slice none 0 0] 39 (0, 0)) ∧ w6.heap[w.heap.size]? = some (.cells #[.slice none 0 0, .slice none 0 0] 39 (0, 0)) := fun w6 hb => ⟨(hb.block _ (show w4.heap.size < w5.heap.size by omega)).trans (unhide HN5), (hb.block _ (show w.heap.size < w5.heap.size by omega)).trans (unhide HQ5)⟩
    have M5 := hide m5
    clear hw5 b45 m5 hn5 hq5 c0 c1 f4
    go_wp2_with fail
    rw [unhide HW5]
    clear e2
    have n0 : w5.drew.cell? ⟨w4.heap.size, 0, none⟩ = some (.slice none 0 0) := (cell_of_block (unhide HN5)).trans rfl
    have n1 : w5.drew.cell? ⟨w4.heap.size, 1, none⟩ = some (.slice none 0 0) := (cell_of_block (unhide HN5)).trans rfl
    have e5 : w5.drew.cell? ⟨w.heap.size + 1, 2, none⟩ = some (.iface 124 (.pointer (some ⟨b, 0, none⟩))) := hp5
    clear hp5
    go_region_with (go_at_call 57; refine (unhide N5).mono ?_; rintro e w6 ⟨rfl, b6⟩; have h6 := unhide M5 w6 b6; have q0 : w6.cell? ⟨w4.heap.size, 0, none⟩ = some (.slice none 0 0) := (cell_of_block h6.1).trans rfl; have q1 : w6.cell? ⟨w4.heap.size, 1, none⟩ = some (.slice none 0 0) := (cell_of_block h6.1).trans rfl; have c0 : w6.cell? ⟨w.heap.size, 0, none⟩ = some (.slice none 0 0) := (cell_of_block h6.2).trans rfl; have c1 : w6.cell? ⟨w.heap.size, 1, none⟩ = some (.slice none 0 0) := (cell_of_block h6.2).trans rfl; have f6 : ∀ i, w6.frozen? ⟨w.heap.size, i, none⟩ = false := fun i => free_of_block h6.2; have H6 := hide h6.2; have B6 := hide b6; clear h6 b6)
    all_goals go_wp2
    all_goals
      obtain ⟨y0, hx⟩ : ∃ x : World, x = w6.setCell ⟨w.heap.size, 0, none⟩ (.slice none 0 0) := ⟨_, rfl⟩
      rw [← hx]
      have p0 : Only w.heap.size [39] w6 y0 ∧ y0.heap[w.heap.size]? = some (.cells #[.slice none 0 0, .slice none 0 0] 39 (0, 0)) := by rw [hx]; exact set_one ⟨Only.refl _ _ _, unhide H6⟩ (Nat.le_refl _) (by simp) 0 _
      clear hx
      obtain ⟨y1, hx⟩ : ∃ x : World, x = y0.setCell ⟨w.heap.size, 1, none⟩ (.slice none 0 0) := ⟨_, rfl⟩
      rw [← hx]
      have p1 : Only w.heap.size [39] w6 y1 ∧ y1.heap[w.heap.size]? = some (.cells #[.slice none 0 0, .slice none 0 0] 39 (0, 0)) := by rw [hx]; exact set_one p0 (Nat.le_refl _) (by simp) 1 _
      clear hx
      clear q0 c0 n0 q1 c1 n1 f6
      have c0 : y1.cell? ⟨w.heap.size, 0, none⟩ = some (.slice none 0 0) := (cell_of_block p1.2).trans rfl
      have c1 : y1.cell? ⟨w.heap.size, 1, none⟩ = some (.slice none 0 0) := (cell_of_block p1.2).trans rfl
      refine bodyPost_ret (v := .tuple #[.agg #[.slice none 0 0, .slice none 0 0], .int .i64 (fe : Int)]) (by simp [results, Tryd.results55, go_sem, c0, c1]) rfl ?_
      exact ⟨#[.slice none 0 0, .slice none 0 0], rfl, (unhide B5).trans (((drew_below w5).mono (by omega)).trans (((unhide B6).mono (show w.heap.size ≤ w5.heap.size by omega)).trans p1.1.below)), fun h => absurd h (unhide HZ), fun _ => rfl⟩

set_option maxRecDepth 20000 in
set_option maxHeartbeats 4000000 in
/-- wire.ParseConfig. -/
theorem parseConfig_any (ao : Option Addr) (n cap : Nat) (bs : List Nat) (w : World) (hg : Given w ao n cap bs) (hS : Start w) :
    Calls Tryd.prog 27 #[.slice ao n cap] w fun e w' => ∃ cs, e = .returned (.tuple #[.agg cs, .int .i64 (((rend n (rconfig bs (0, 0)).2).2 : Nat) : Int)]) ∧ Below w.heap.size w w' ∧
      ((rend n (rconfig bs (0, 0)).2).2 = 0 → ConfIs w.heap.size w' cs (rconfig bs (0, 0)).1) ∧
      ((rend n (rconfig bs (0, 0)).2).2 ≠ 0 → cs = #[.slice none 0 0, .slice none 0 0]) := by
  obtain ⟨w1, hw1⟩ : ∃ w1, w.alloc (.cells #[.slice none 0 0, .slice none 0 0] 39) = w1 := ⟨_, rfl⟩
  have b1 : Below w.heap.size w w1 := by rw [← hw1]; exact (Below.refl _ w).alloc (Nat.le_refl _) _
  have hq1 : w1.heap[w.heap.size]? = some (.cells #[.slice none 0 0, .slice none 0 0] 39 (0, 0)) := by rw [← hw1]; exact heap_alloc_new _ _
  have z1 : w.heap.size + 1 ≤ w1.heap.size := by rw [← hw1]; simp
  have C1 := hide (parseConfig ao n cap bs w1 (hg.below b1) (hS.below b1))
  have B1 := hide b1
  have HQ1 := hide hq1
  have HW1 := hide hw1
  clear b1 hq1 hw1 hS hg
  obtain ⟨X, hX⟩ : ∃ X, rconfig bs (0, 0) = X := ⟨_, rfl⟩
  rw [hX] at C1 ⊢
  clear hX
  obtain ⟨x, sx⟩ := X
  obtain ⟨F, hF⟩ : ∃ F, rend n sx = F := ⟨_, rfl⟩
  simp only [hF] at C1 ⊢
  clear hF
  obtain ⟨fp, fe⟩ := F
  simp only at C1 ⊢
  go_enter Tryd.func27, Tryd.ntmps27
  go_wp2_with fail
  rw [unhide HW1]
  clear HW1
  refine (unhide C1).mono ?_
  rintro e w2 ⟨cs, rfl, b2, h0, h1⟩
  have hq2 := (b2.block w.heap.size (by omega)).trans (unhide HQ1)
  have c0 : w2.cell? ⟨w.heap.size, 0, none⟩ = some (.slice none 0 0) := (cell_of_block hq2).trans rfl
  have c1 : w2.cell? ⟨w.heap.size, 1, none⟩ = some (.slice none 0 0) := (cell_of_block hq2).trans rfl
  have f2 : ∀ i, w2.frozen? ⟨w.heap.size, i, none⟩ = false := fun i => free_of_block hq2
  have HQ2 := hide hq2
  have B2 := hide ((unhide B1).trans (b2.mono (by omega)))
  clear hq2 b2 C1 HQ1 B1
  by_cases hz : fe = 0
  · subst hz
    obtain ⟨v, v', rfl, o1, o2⟩ := h0 rfl
    obtain ⟨a1, p1, rfl⟩ := row_slice o1
    obtain ⟨a2, p2, rfl⟩ := row_slice o2
    obtain ⟨l1, h1'⟩ : ∃ l, x.1.length = l := ⟨_, rfl⟩
    obtain ⟨l2, h2'⟩ : ∃ l, x.2.length = l := ⟨_, rfl⟩
    simp only [h1', h2'] at o1 o2 ⊢
    have O1 := hide o1
    have O2 := hide o2
    have HL1 := hide h1'
    have HL2 := hide h2'
    clear o1 o2 h1' h2' h0 h1
    go_wp2
    clear c0 c1 f2
    obtain ⟨y0, hx⟩ : ∃ yy : World, yy = w2.setCell ⟨w.heap.size, 0, none⟩ (.slice a1 l1 p1) := ⟨_, rfl⟩
    rw [← hx]
    have P0 : Only w.heap.size [39] w2 y0 ∧ y0.heap[w.heap.size]? = some (.cells #[.slice a1 l1 p1, .slice none 0 0] 39 (0, 0)) := by rw [hx]; exact set_one ⟨Only.refl _ _ _, unhide HQ2⟩ (Nat.le_refl _) (by simp) 0 _
    clear hx
    obtain ⟨y1, hx⟩ : ∃ yy : World, yy = y0.setCell ⟨w.heap.size, 1, none⟩ (.slice a2 l2 p2) := ⟨_, rfl⟩
    rw [← hx]
    have P1 : Only w.heap.size [39] w2 y1 ∧ y1.heap[w.heap.size]? = some (.cells #[.slice a1 l1 p1, .slice a2 l2 p2] 39 (0, 0)) := by rw [hx]; exact set_one P0 (Nat.le_refl _) (by simp) 1 _
    clear hx
    have c0 : y1.cell? ⟨w.heap.size, 0, none⟩ = some (.slice a1 l1 p1) := (cell_of_block P1.2).trans rfl
    have c1 : y1.cell? ⟨w.heap.size, 1, none⟩ = some (.slice a2 l2 p2) := (cell_of_block P1.2).trans rfl
    refine bodyPost_ret (v := .tuple #[.agg #[.slice a1 l1 p1, .slice a2 l2 p2], .int .i64 0]) (by simp [results, Tryd.results27, go_sem, c0, c1]) rfl ?_
    have O1 := hide (own_only (unhide O1) P1.1 (by decide))
    have O2 := hide (own_only (unhide O2) P1.1 (by decide))
    have FIN : ConfIs w.heap.size y1 #[.slice a1 l1 p1, .slice a2 l2 p2] x := ⟨.slice a1 l1 p1, .slice a2 l2 p2, rfl, by rw [unhide HL1]; exact own_wide (unhide O1) (by omega), by rw [unhide HL2]; exact own_wide (unhide O2) (by omega)⟩
    refine ⟨#[.slice a1 l1 p1, .slice a2 l2 p2], rfl, (unhide B2).trans P1.1.below, ?_⟩
    first | exact ⟨fun _ => FIN, fun h => absurd rfl h⟩ | exact FIN | exact ⟨FIN, trivial⟩
  · obtain rfl := h1 hz
    have HZ := hide hz
    clear h0 h1 hz
    go_wp2
    clear c0 c1 f2
    obtain ⟨y0, hx⟩ : ∃ yy : World, yy = w2.setCell ⟨w.heap.size, 0, none⟩ (.slice none 0 0) := ⟨_, rfl⟩
    rw [← hx]
    have P0 : Only w.heap.size [39] w2 y0 ∧ y0.heap[w.heap.size]? = some (.cells #[.slice none 0 0, .slice none 0 0] 39 (0, 0)) := by rw [hx]; exact set_one ⟨Only.refl _ _ _, unhide HQ2⟩ (Nat.le_refl _) (by simp) 0 _
    clear hx
    obtain ⟨y1, hx⟩ : ∃ yy : World, yy = y0.setCell ⟨w.heap.size, 1, none⟩ (.slice none 0 0) := ⟨_, rfl⟩
    rw [← hx]
    have P1 : Only w.heap.size [39] w2 y1 ∧ y1.heap[w.heap.size]? = some (.cells #[.slice none 0 0, .slice none 0 0] 39 (0, 0)) := by rw [hx]; exact set_one P0 (Nat.le_refl _) (by simp) 1 _
    clear hx
    have c0 : y1.cell? ⟨w.heap.size, 0, none⟩ = some (.slice none 0 0) := (cell_of_block P1.2).trans rfl
    have c1 : y1.cell? ⟨w.heap.size, 1, none⟩ = some (.slice none 0 0) := (cell_of_block P1.2).trans rfl
    refine bodyPost_ret (v := .tuple #[.agg #[.slice none 0 0, .slice none 0 0], .int .i64 (fe : Int)]) (by simp [results, Tryd.results27, go_sem, c0, c1]) rfl ?_
    exact ⟨#[.slice none 0 0, .slice none 0 0], rfl, (unhide B2).trans P1.1.below, fun h => absurd h (unhide HZ), fun _ => rfl⟩
end Go.Proofs.YtjcllplgiffmgaaDoor

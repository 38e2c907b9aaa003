/- wire.parse of an entry, of a configuration, of a message: contracts. -/
import Derived.Test.YtojmnlbdhpledaaDoorReader
import Derived.Deep.RegionWith
namespace Go.Proofs.YtojmnlbdhpledaaDoor
open Go.RowKit
theorem heap_lt {w : World} {b : Nat} {o : Obj} (h : w.heap[b]? = some o) : b < w.heap.size := by
  by_cases hl : b < w.heap.size
  · exact hl
  · rw [Array.getElem?_eq_none (by omega)] at h; cases h
theorem drew_below (w : World) : Below w.heap.size w w.drew := (Below.refl _ w).drew
/-- these cells are that entry. -/
def EntIs (base : Nat) (w : World) (cs : Array Value) (x : Ent) : Prop := ∃ v, cs = x.cells v ∧ w.ownsRow base 3 1 v x.members.length (i64s x.members)

set_option maxRecDepth 20000 in
set_option maxHeartbeats 4000000 in
theorem parseEntry (ao : Option Addr) (n cap : Nat) (bs : List Nat) (w : World) (hg : Given w ao n cap bs) (hS : Start w) :
    Calls Tryd.prog 36 #[.slice ao n cap, .func (.func 37) #[] #[]] w fun e w' => ∃ cs, e = .returned (.tuple #[.agg cs, .int .i64 (((rend n (rentry bs (0, 0)).2).2 : Nat) : Int)]) ∧ Below w.heap.size w w' ∧
      ((rend n (rentry bs (0, 0)).2).2 = 0 → EntIs w.heap.size w' cs (rentry bs (0, 0)).1) ∧
      ((rend n (rentry bs (0, 0)).2).2 ≠ 0 → cs = #[.int .i64 0, .int .i64 0, .int .i64 0, .string ⟨#[]⟩, .slice none 0 0, .int .i64 0]) := by
  obtain ⟨w1, hw1⟩ : ∃ w1, (w.alloc (.cells #[.int .i64 0, .int .i64 0, .int .i64 0, .string ⟨#[]⟩, .slice none 0 0, .int .i64 0] 24)).alloc (.cells #[.slice ao n cap, .int .i64 0, .nilIface] 113) = w1 := ⟨_, rfl⟩
  have b1 : Below w.heap.size w w1 := by rw [← hw1]; exact ((Below.refl _ w).alloc (Nat.le_refl _) _).alloc (by simp) _
  have hp1 : w1.heap[w.heap.size + 1]? = some (.cells #[.slice ao n cap, .int .i64 0, .nilIface] 113 (0, 0)) := by
    rw [← hw1]
    have h := heap_alloc_new (w.alloc (.cells #[.int .i64 0, .int .i64 0, .int .i64 0, .string ⟨#[]⟩, .slice none 0 0, .int .i64 0] 24)) (.cells #[.slice ao n cap, .int .i64 0, .nilIface] 113)
    simpa using h
  have hq1 : w1.heap[w.heap.size]? = some (.cells #[.int .i64 0, .int .i64 0, .int .i64 0, .string ⟨#[]⟩, .slice none 0 0, .int .i64 0] 24 (0, 0)) := by
    rw [← hw1]
    exact (Below.heap_alloc _ _ _ (by simp)).trans (heap_alloc_new _ _)
  have z1 : w.heap.size + 2 ≤ w1.heap.size := by rw [← hw1]; simp
  have R1 : Hid (Rg w.heap.size w1 w1 (w.heap.size + 1) ao n cap bs (0, 0)) := Rg.start (s := (0, 0)) ⟨_, hp1, by omega, Or.inl ⟨rfl, rfl⟩, Nat.zero_le _⟩ (hg.src b1) b1.size
  have S1 := hide (hS.below b1)
  have ZG := hide hS.2.2
  have B1 := hide b1
  have HQ1 := hide hq1
  have HW1 := hide hw1
  clear b1 hp1 hq1 hw1 hS hg
  have C2 := hide (rg_entry (unhide R1))
  obtain ⟨X, hX⟩ : ∃ X, rentry bs (0, 0) = X := ⟨_, rfl⟩
  rw [hX] at C2 ⊢
  clear hX
  obtain ⟨⟨x0, x1, x2, x3, x4, x5⟩, sx⟩ := X
  obtain ⟨F, hF⟩ : ∃ F, rend n sx = F := ⟨_, rfl⟩
  simp only [hF]
  have HF := hide hF
  clear hF
  obtain ⟨fp, fe⟩ := F
  simp only at C2 ⊢
  go_enter Tryd.func36, Tryd.ntmps36
  go_wp2_with fail
  rw [unhide HW1]
  clear HW1
  refine (unhide C2).mono ?_
  rintro e w2 ⟨v, rfl, o2, r2, k2⟩
  obtain ⟨aov, capv, rfl⟩ := row_slice o2
  simp only [Ent.cells] at o2 ⊢
  obtain ⟨nm, hnm⟩ : ∃ nm, x4.length = nm := ⟨_, rfl⟩
  simp only [hnm] at o2 ⊢
  have HNM := hide hnm
  have O2 := hide o2
  have B2 := hide ((unhide B1).trans k2.below)
  have HQ2 := hide (k2.block (unhide HQ1) (by decide))
  have R2 := hide (r2.alloc (.cells #[.int .i64 x0, .int .i64 x1, .int .i64 x2, .string (str x3), .slice aov nm capv, .int .i64 x5] 24))
  have z2 : w.heap.size + 2 ≤ w2.heap.size := Nat.le_trans z1 k2.size
  clear r2 k2 R1 HQ1 B1 C2 o2 hnm
  have E3 := hide (rg_end (unhide R2))
  rw [unhide HF] at E3
  go_wp2_with fail
  refine (unhide E3).mono ?_
  rintro e w4 ⟨rfl, r4, k4⟩
  have b24 : Below w.heap.size w2 w4 := ((Below.refl _ w2).alloc (by omega) _).trans k4.below
  have B4 := hide ((unhide B2).trans b24)
  have ht4 := k4.block (heap_alloc_new w2 (.cells #[.int .i64 x0, .int .i64 x1, .int .i64 x2, .string (str x3), .slice aov nm capv, .int .i64 x5] 24)) (by decide)
  have hq4 := k4.block (((Below.heap_alloc w2 (.cells #[.int .i64 x0, .int .i64 x1, .int .i64 x2, .string (str x3), .slice aov nm capv, .int .i64 x5] 24) _ (by omega))).trans (unhide HQ2)) (by decide)
  have G4 := hide ((unhide S1).2.1.below ((unhide R2).2.2.2.trans k4).below (by have := unhide ZG; omega))
  have z4 : w2.heap.size + 1 ≤ w4.heap.size := by have := k4.size; simp at this; exact this
  have FINo2 := hide (own_only (own_below (unhide O2) ((Below.refl _ w2).alloc (Nat.le_refl _) _)) k4 (by decide))
  obtain ⟨ev, hp4, _, herr, _⟩ := r4.1
  have e2 : w4.cell? ⟨w.heap.size + 1, 2, none⟩ = some ev := (cell_of_block hp4).trans rfl
  have a0 : w4.cell? ⟨w2.heap.size, 0, none⟩ = some (.int .i64 x0) := (cell_of_block ht4).trans rfl
  have a1 : w4.cell? ⟨w2.heap.size, 1, none⟩ = some (.int .i64 x1) := (cell_of_block ht4).trans rfl
  have a2 : w4.cell? ⟨w2.heap.size, 2, none⟩ = some (.int .i64 x2) := (cell_of_block ht4).trans rfl
  have a3 : w4.cell? ⟨w2.heap.size, 3, none⟩ = some (.string (str x3)) := (cell_of_block ht4).trans rfl
  have a4 : w4.cell? ⟨w2.heap.size, 4, none⟩ = some (.slice aov nm capv) := (cell_of_block ht4).trans rfl
  have a5 : w4.cell? ⟨w2.heap.size, 5, none⟩ = some (.int .i64 x5) := (cell_of_block ht4).trans rfl
  have c0 : w4.cell? ⟨w.heap.size, 0, none⟩ = some (.int .i64 0) := (cell_of_block hq4).trans rfl
  have c1 : w4.cell? ⟨w.heap.size, 1, none⟩ = some (.int .i64 0) := (cell_of_block hq4).trans rfl
  have c2 : w4.cell? ⟨w.heap.size, 2, none⟩ = some (.int .i64 0) := (cell_of_block hq4).trans rfl
  have c3 : w4.cell? ⟨w.heap.size, 3, none⟩ = some (.string ⟨#[]⟩) := (cell_of_block hq4).trans rfl
  have c4 : w4.cell? ⟨w.heap.size, 4, none⟩ = some (.slice none 0 0) := (cell_of_block hq4).trans rfl
  have c5 : w4.cell? ⟨w.heap.size, 5, none⟩ = some (.int .i64 0) := (cell_of_block hq4).trans rfl
  have f4 : ∀ i, w4.frozen? ⟨w.heap.size, i, none⟩ = false := fun i => free_of_block hq4
  have HQ4 := hide hq4
  simp only at herr
  clear k4 b24 ht4 hq4 hp4 r4 R2 E3 HQ2 B2
  by_cases hz : fe = 0
  · subst hz
    obtain rfl := herr.none
    clear herr
    go_wp2
    obtain ⟨y0, hx⟩ : ∃ x : World, x = w4.setCell ⟨w.heap.size, 0, none⟩ (.int .i64 x0) := ⟨_, rfl⟩
    rw [← hx]
    have p0 : Only w.heap.size [24] w4 y0 ∧ y0.heap[w.heap.size]? = some (.cells #[.int .i64 x0, .int .i64 0, .int .i64 0, .string ⟨#[]⟩, .slice none 0 0, .int .i64 0] 24 (0, 0)) := by rw [hx]; exact set_one ⟨Only.refl _ _ _, unhide HQ4⟩ (Nat.le_refl _) (by simp) 0 _
    clear hx
    obtain ⟨y1, hx⟩ : ∃ x : World, x = y0.setCell ⟨w.heap.size, 1, none⟩ (.int .i64 x1) := ⟨_, rfl⟩
    rw [← hx]
    have p1 : Only w.heap.size [24] w4 y1 ∧ y1.heap[w.heap.size]? = some (.cells #[.int .i64 x0, .int .i64 x1, .int .i64 0, .string ⟨#[]⟩, .slice none 0 0, .int .i64 0] 24 (0, 0)) := by rw [hx]; exact set_one p0 (Nat.le_refl _) (by simp) 1 _
    clear hx
    obtain ⟨y2, hx⟩ : ∃ x : World, x = y1.setCell ⟨w.heap.size, 2, none⟩ (.int .i64 x2) := ⟨_, rfl⟩
    rw [← hx]
    have p2 : Only w.heap.size [24] w4 y2 ∧ y2.heap[w.heap.size]? = some (.cells #[.int .i64 x0, .int .i64 x1, .int .i64 x2, .string ⟨#[]⟩, .slice none 0 0, .int .i64 0] 24 (0, 0)) := by rw [hx]; exact set_one p1 (Nat.le_refl _) (by simp) 2 _
    clear hx
    obtain ⟨y3, hx⟩ : ∃ x : World, x = y2.setCell ⟨w.heap.size, 3, none⟩ (.string (str x3)) := ⟨_, rfl⟩
    rw [← hx]
    have p3 : Only w.heap.size [24] w4 y3 ∧ y3.heap[w.heap.size]? = some (.cells #[.int .i64 x0, .int .i64 x1, .int .i64 x2, .string (str x3), .slice none 0 0, .int .i64 0] 24 (0, 0)) := by rw [hx]; exact set_one p2 (Nat.le_refl _) (by simp) 3 _
    clear hx
    obtain ⟨y4, hx⟩ : ∃ x : World, x = y3.setCell ⟨w.heap.size, 4, none⟩ (.slice aov nm capv) := ⟨_, rfl⟩
    rw [← hx]
    have p4 : Only w.heap.size [24] w4 y4 ∧ y4.heap[w.heap.size]? = some (.cells #[.int .i64 x0, .int .i64 x1, .int .i64 x2, .string (str x3), .slice aov nm capv, .int .i64 0] 24 (0, 0)) := by rw [hx]; exact set_one p3 (Nat.le_refl _) (by simp) 4 _
    clear hx
    obtain ⟨y5, hx⟩ : ∃ x : World, x = y4.setCell ⟨w.heap.size, 5, none⟩ (.int .i64 x5) := ⟨_, rfl⟩
    rw [← hx]
    have p5 : Only w.heap.size [24] w4 y5 ∧ y5.heap[w.heap.size]? = some (.cells #[.int .i64 x0, .int .i64 x1, .int .i64 x2, .string (str x3), .slice aov nm capv, .int .i64 x5] 24 (0, 0)) := by rw [hx]; exact set_one p4 (Nat.le_refl _) (by simp) 5 _
    clear hx
    clear a0 c0 a1 c1 a2 c2 a3 c3 a4 c4 a5 c5 f4
    have c0 : y5.cell? ⟨w.heap.size, 0, none⟩ = some (.int .i64 x0) := (cell_of_block p5.2).trans rfl
    have c1 : y5.cell? ⟨w.heap.size, 1, none⟩ = some (.int .i64 x1) := (cell_of_block p5.2).trans rfl
    have c2 : y5.cell? ⟨w.heap.size, 2, none⟩ = some (.int .i64 x2) := (cell_of_block p5.2).trans rfl
    have c3 : y5.cell? ⟨w.heap.size, 3, none⟩ = some (.string (str x3)) := (cell_of_block p5.2).trans rfl
    have c4 : y5.cell? ⟨w.heap.size, 4, none⟩ = some (.slice aov nm capv) := (cell_of_block p5.2).trans rfl
    have c5 : y5.cell? ⟨w.heap.size, 5, none⟩ = some (.int .i64 x5) := (cell_of_block p5.2).trans rfl
    refine bodyPost_ret (v := .tuple #[.agg #[.int .i64 x0, .int .i64 x1, .int .i64 x2, .string (str x3), .slice aov nm capv, .int .i64 x5], .int .i64 0]) (by simp [results, Tryd.results36, go_sem, c0, c1, c2, c3, c4, c5]) rfl ?_
    refine ⟨#[.int .i64 x0, .int .i64 x1, .int .i64 x2, .string (str x3), .slice aov nm capv, .int .i64 x5], rfl, (unhide B4).trans p5.1.below, ?_⟩
    have FINo2 := hide (own_only (unhide FINo2) p5.1 (by decide))
    have FIN := (show EntIs w.heap.size y5 #[.int .i64 x0, .int .i64 x1, .int .i64 x2, .string (str x3), .slice aov nm capv, .int .i64 x5] (Ent.mk x0 x1 x2 x3 x4 x5) from ⟨.slice aov nm capv, rfl, by rw [unhide HNM]; exact own_wide (unhide FINo2) (by omega)⟩)
    first | exact ⟨fun _ => FIN, fun h => absurd rfl h⟩ | exact FIN | exact ⟨FIN, trivial⟩
  · have HZ := hide hz
    have HEN := hide herr.err
    rcases herr with ⟨h0, _⟩ | ⟨b, xb, _, rfl, hfb⟩
    · exact absurd h0 hz
    clear hz a0 a1 a2 a3 a4 a5
    have hn5 := heap_alloc_new w4 (.cells #[.int .i64 0, .int .i64 0, .int .i64 0, .string ⟨#[]⟩, .slice none 0 0, .int .i64 0] 24)
    have b45 : Below w4.heap.size w4 (w4.alloc (.cells #[.int .i64 0, .int .i64 0, .int .i64 0, .string ⟨#[]⟩, .slice none 0 0, .int .i64 0] 24)) := (Below.refl _ w4).alloc (Nat.le_refl _) _
    obtain ⟨w5, hw5⟩ : ∃ w5, w4.alloc (.cells #[.int .i64 0, .int .i64 0, .int .i64 0, .string ⟨#[]⟩, .slice none 0 0, .int .i64 0] 24) = w5 := ⟨_, rfl⟩
    have HW5 := hide hw5
    rw [hw5] at hn5 b45
    have z5 : w4.heap.size + 1 ≤ w5.heap.size := by rw [← hw5]; simp
    have hq5 := (b45.block w.heap.size (by omega)).trans (unhide HQ4)
    have hp5 : w5.cell? ⟨w.heap.size + 1, 2, none⟩ = some (.iface 124 (.pointer (some ⟨b, 0, none⟩))) := by rw [b45.cell (by simp only; omega)]; exact e2
    have G5 := hide ((unhide G4).below (b45.mono (Nat.le_refl _)) (by have := unhide ZG; omega))
    have HE5 : Hid (Err w5 (.iface 124 (.pointer (some ⟨b, 0, none⟩))) fe) := ErrB.err (Or.inr ⟨b, xb, unhide HZ, rfl, (b45.block b (heap_lt hfb)).trans hfb⟩)
    have B5 := hide ((unhide B4).trans (b45.mono (by omega)))
    have N5 := hide (number_any (.iface 124 (.pointer (some ⟨b, 0, none⟩))) fe w5.drew ((unhide G5).below (drew_below w5) (by have := unhide ZG; omega)) (ErrB.err (ErrB.only (Or.inr ⟨b, xb, unhide HZ, rfl, (b45.block b (heap_lt hfb)).trans hfb⟩) (Only.of_below (ts := []) (drew_below w5) (Nat.le_refl _)) (by simp))))
    clear hfb
    have HN5 := hide hn5
    have HQ5 := hide hq5
    have m5 : ∀ w6, Below w5.drew.heap.size w5.drew w6 → w6.heap[w4.heap.size]? = some (.cells #[.int .i64 0, .int .i64 0, .int .i64 0, .string ⟨#[]⟩, .slice none 0 0, .int .i64 0] 24 (0, 0)) ∧ w6.heap[w.heap.size]? = some (.cells #[.int .i64 0, .int .i64 0, .int .i64 0, .string ⟨#[]⟩, .slice none 0 0, .int .i64 0] 24 (0, 0)) := fun w6 hb => ⟨(hb.block _ (show w4.heap.size < w5.heap.size by omega)).trans (unhide HN5), (hb.block _ (show w.heap.size < w5.heap.size by omega)).trans (unhide HQ5)⟩
    have M5 := hide m5
    clear hw5 b45 m5 hn5 hq5 c0 c1 c2 c3 c4 c5 f4
    go_wp2_with fail
    rw [unhide HW5]
    clear e2
    have n0 : w5.drew.cell? ⟨w4.heap.size, 0, none⟩ = some (.int .i64 0) := (cell_of_block (unhide HN5)).trans rfl
    have n1 : w5.drew.cell? ⟨w4.heap.size, 1, none⟩ = some (.int .i64 0) := (cell_of_block (unhide HN5)).trans rfl
    have n2 : w5.drew.cell? ⟨w4.heap.size, 2, none⟩ = some (.int .i64 0) := (cell_of_block (unhide HN5)).trans rfl
    have n3 : w5.drew.cell? ⟨w4.heap.size, 3, none⟩ = some (.string ⟨#[]⟩) := (cell_of_block (unhide HN5)).trans rfl
    have n4 : w5.drew.cell? ⟨w4.heap.size, 4, none⟩ = some (.slice none 0 0) := (cell_of_block (unhide HN5)).trans rfl
    have n5 : w5.drew.cell? ⟨w4.heap.size, 5, none⟩ = some (.int .i64 0) := (cell_of_block (unhide HN5)).trans rfl
    have e5 : w5.drew.cell? ⟨w.heap.size + 1, 2, none⟩ = some (.iface 124 (.pointer (some ⟨b, 0, none⟩))) := hp5
    clear hp5
    go_region_with (go_at_call 57; refine (unhide N5).mono ?_; rintro e w6 ⟨rfl, b6⟩; have h6 := unhide M5 w6 b6; have q0 : w6.cell? ⟨w4.heap.size, 0, none⟩ = some (.int .i64 0) := (cell_of_block h6.1).trans rfl; have q1 : w6.cell? ⟨w4.heap.size, 1, none⟩ = some (.int .i64 0) := (cell_of_block h6.1).trans rfl; have q2 : w6.cell? ⟨w4.heap.size, 2, none⟩ = some (.int .i64 0) := (cell_of_block h6.1).trans rfl; have q3 : w6.cell? ⟨w4.heap.size, 3, none⟩ = some (.string ⟨#[]⟩) := (cell_of_block h6.1).trans rfl; have q4 : w6.cell? ⟨w4.heap.size, 4, none⟩ = some (.slice none 0 0) := (cell_of_block h6.1).trans rfl; have q5 : w6.cell? ⟨w4.heap.size, 5, none⟩ = some (.int .i64 0) := (cell_of_block h6.1).trans rfl; have c0 : w6.cell? ⟨w.heap.size, 0, none⟩ = some (.int .i64 0) := (cell_of_block h6.2).trans rfl; have c1 : w6.cell? ⟨w.heap.size, 1, none⟩ = some (.int .i64 0) := (cell_of_block h6.2).trans rfl; have c2 : w6.cell? ⟨w.heap.size, 2, none⟩ = some (.int .i64 0) := (cell_of_block h6.2).trans rfl; have c3 : w6.cell? ⟨w.heap.size, 3, none⟩ = some (.string ⟨#[]⟩) := (cell_of_block h6.2).trans rfl; have c4 : w6.cell? ⟨w.heap.size, 4, none⟩ = some (.slice none 0 0) := (cell_of_block h6.2).trans rfl; have c5 : w6.cell? ⟨w.heap.size, 5, none⟩ = some (.int .i64 0) := (cell_of_block h6.2).trans rfl; have f6 : ∀ i, w6.frozen? ⟨w.heap.size, i, none⟩ = false := fun i => free_of_block h6.2; have H6 := hide h6.2; have B6 := hide b6; clear h6 b6)
    all_goals go_wp2
    all_goals
      obtain ⟨y0, hx⟩ : ∃ x : World, x = w6.setCell ⟨w.heap.size, 0, none⟩ (.int .i64 0) := ⟨_, rfl⟩
      rw [← hx]
      have p0 : Only w.heap.size [24] w6 y0 ∧ y0.heap[w.heap.size]? = some (.cells #[.int .i64 0, .int .i64 0, .int .i64 0, .string ⟨#[]⟩, .slice none 0 0, .int .i64 0] 24 (0, 0)) := by rw [hx]; exact set_one ⟨Only.refl _ _ _, unhide H6⟩ (Nat.le_refl _) (by simp) 0 _
      clear hx
      obtain ⟨y1, hx⟩ : ∃ x : World, x = y0.setCell ⟨w.heap.size, 1, none⟩ (.int .i64 0) := ⟨_, rfl⟩
      rw [← hx]
      have p1 : Only w.heap.size [24] w6 y1 ∧ y1.heap[w.heap.size]? = some (.cells #[.int .i64 0, .int .i64 0, .int .i64 0, .string ⟨#[]⟩, .slice none 0 0, .int .i64 0] 24 (0, 0)) := by rw [hx]; exact set_one p0 (Nat.le_refl _) (by simp) 1 _
      clear hx
      obtain ⟨y2, hx⟩ : ∃ x : World, x = y1.setCell ⟨w.heap.size, 2, none⟩ (.int .i64 0) := ⟨_, rfl⟩
      rw [← hx]
      have p2 : Only w.heap.size [24] w6 y2 ∧ y2.heap[w.heap.size]? = some (.cells #[.int .i64 0, .int .i64 0, .int .i64 0, .string ⟨#[]⟩, .slice none 0 0, .int .i64 0] 24 (0, 0)) := by rw [hx]; exact set_one p1 (Nat.le_refl _) (by simp) 2 _
      clear hx
      obtain ⟨y3, hx⟩ : ∃ x : World, x = y2.setCell ⟨w.heap.size, 3, none⟩ (.string ⟨#[]⟩) := ⟨_, rfl⟩
      rw [← hx]
      have p3 : Only w.heap.size [24] w6 y3 ∧ y3.heap[w.heap.size]? = some (.cells #[.int .i64 0, .int .i64 0, .int .i64 0, .string ⟨#[]⟩, .slice none 0 0, .int .i64 0] 24 (0, 0)) := by rw [hx]; exact set_one p2 (Nat.le_refl _) (by simp) 3 _
      clear hx
      obtain ⟨y4, hx⟩ : ∃ x : World, x = y3.setCell ⟨w.heap.size, 4, none⟩ (.slice none 0 0) := ⟨_, rfl⟩
      rw [← hx]
      have p4 : Only w.heap.size [24] w6 y4 ∧ y4.heap[w.heap.size]? = some (.cells #[.int .i64 0, .int .i64 0, .int .i64 0, .string ⟨#[]⟩, .slice none 0 0, .int .i64 0] 24 (0, 0)) := by rw [hx]; exact set_one p3 (Nat.le_refl _) (by simp) 4 _
      clear hx
      obtain ⟨y5, hx⟩ : ∃ x : World, x = y4.setCell ⟨w.heap.size, 5, none⟩ (.int .i64 0) := ⟨_, rfl⟩
      rw [← hx]
      have p5 : Only w.heap.size [24] w6 y5 ∧ y5.heap[w.heap.size]? = some (.cells #[.int .i64 0, .int .i64 0, .int .i64 0, .string ⟨#[]⟩, .slice none 0 0, .int .i64 0] 24 (0, 0)) := by rw [hx]; exact set_one p4 (Nat.le_refl _) (by simp) 5 _
      clear hx
      clear q0 c0 n0 q1 c1 n1 q2 c2 n2 q3 c3 n3 q4 c4 n4 q5 c5 n5 f6
      have c0 : y5.cell? ⟨w.heap.size, 0, none⟩ = some (.int .i64 0) := (cell_of_block p5.2).trans rfl
      have c1 : y5.cell? ⟨w.heap.size, 1, none⟩ = some (.int .i64 0) := (cell_of_block p5.2).trans rfl
      have c2 : y5.cell? ⟨w.heap.size, 2, none⟩ = some (.int .i64 0) := (cell_of_block p5.2).trans rfl
      have c3 : y5.cell? ⟨w.heap.size, 3, none⟩ = some (.string ⟨#[]⟩) := (cell_of_block p5.2).trans rfl
      have c4 : y5.cell? ⟨w.heap.size, 4, none⟩ = some (.slice none 0 0) := (cell_of_block p5.2).trans rfl
      have c5 : y5.cell? ⟨w.heap.size, 5, none⟩ = some (.int .i64 0) := (cell_of_block p5.2).trans rfl
      refine bodyPost_ret (v := .tuple #[.agg #[.int .i64 0, .int .i64 0, .int .i64 0, .string ⟨#[]⟩, .slice none 0 0, .int .i64 0], .int .i64 (fe : Int)]) (by simp [results, Tryd.results36, go_sem, c0, c1, c2, c3, c4, c5]) rfl ?_
      exact ⟨#[.int .i64 0, .int .i64 0, .int .i64 0, .string ⟨#[]⟩, .slice none 0 0, .int .i64 0], rfl, (unhide B5).trans (((drew_below w5).mono (by omega)).trans (((unhide B6).mono (show w.heap.size ≤ w5.heap.size by omega)).trans p5.1.below)), fun h => absurd h (unhide HZ), fun _ => rfl⟩

set_option maxRecDepth 20000 in
set_option maxHeartbeats 4000000 in
/-- wire.ParseEntry. -/
theorem parseEntry_any (ao : Option Addr) (n cap : Nat) (bs : List Nat) (w : World) (hg : Given w ao n cap bs) (hS : Start w) :
    Calls Tryd.prog 13 #[.slice ao n cap] w fun e w' => ∃ cs, e = .returned (.tuple #[.agg cs, .int .i64 (((rend n (rentry bs (0, 0)).2).2 : Nat) : Int)]) ∧ Below w.heap.size w w' ∧
      ((rend n (rentry bs (0, 0)).2).2 = 0 → EntIs w.heap.size w' cs (rentry bs (0, 0)).1) ∧
      ((rend n (rentry bs (0, 0)).2).2 ≠ 0 → cs = #[.int .i64 0, .int .i64 0, .int .i64 0, .string ⟨#[]⟩, .slice none 0 0, .int .i64 0]) := by
  obtain ⟨w1, hw1⟩ : ∃ w1, w.alloc (.cells #[.int .i64 0, .int .i64 0, .int .i64 0, .string ⟨#[]⟩, .slice none 0 0, .int .i64 0] 24) = w1 := ⟨_, rfl⟩
  have b1 : Below w.heap.size w w1 := by rw [← hw1]; exact (Below.refl _ w).alloc (Nat.le_refl _) _
  have hq1 : w1.heap[w.heap.size]? = some (.cells #[.int .i64 0, .int .i64 0, .int .i64 0, .string ⟨#[]⟩, .slice none 0 0, .int .i64 0] 24 (0, 0)) := by rw [← hw1]; exact heap_alloc_new _ _
  have z1 : w.heap.size + 1 ≤ w1.heap.size := by rw [← hw1]; simp
  have C1 := hide (parseEntry ao n cap bs w1 (hg.below b1) (hS.below b1))
  have B1 := hide b1
  have HQ1 := hide hq1
  have HW1 := hide hw1
  clear b1 hq1 hw1 hS hg
  obtain ⟨X, hX⟩ : ∃ X, rentry bs (0, 0) = X := ⟨_, rfl⟩
  rw [hX] at C1 ⊢
  clear hX
  obtain ⟨x, sx⟩ := X
  obtain ⟨F, hF⟩ : ∃ F, rend n sx = F := ⟨_, rfl⟩
  simp only [hF] at C1 ⊢
  clear hF
  obtain ⟨fp, fe⟩ := F
  simp only at C1 ⊢
  go_enter Tryd.func13, Tryd.ntmps13
  go_wp2_with fail
  rw [unhide HW1]
  clear HW1
  refine (unhide C1).mono ?_
  rintro e w2 ⟨cs, rfl, b2, h0, h1⟩
  have hq2 := (b2.block w.heap.size (by omega)).trans (unhide HQ1)
  have c0 : w2.cell? ⟨w.heap.size, 0, none⟩ = some (.int .i64 0) := (cell_of_block hq2).trans rfl
  have c1 : w2.cell? ⟨w.heap.size, 1, none⟩ = some (.int .i64 0) := (cell_of_block hq2).trans rfl
  have c2 : w2.cell? ⟨w.heap.size, 2, none⟩ = some (.int .i64 0) := (cell_of_block hq2).trans rfl
  have c3 : w2.cell? ⟨w.heap.size, 3, none⟩ = some (.string ⟨#[]⟩) := (cell_of_block hq2).trans rfl
  have c4 : w2.cell? ⟨w.heap.size, 4, none⟩ = some (.slice none 0 0) := (cell_of_block hq2).trans rfl
  have c5 : w2.cell? ⟨w.heap.size, 5, none⟩ = some (.int .i64 0) := (cell_of_block hq2).trans rfl
  have f2 : ∀ i, w2.frozen? ⟨w.heap.size, i, none⟩ = false := fun i => free_of_block hq2
  have HQ2 := hide hq2
  have B2 := hide ((unhide B1).trans (b2.mono (by omega)))
  clear hq2 b2 C1 HQ1 B1
  by_cases hz : fe = 0
  · subst hz
    obtain ⟨v, rfl, o1⟩ := h0 rfl
    obtain ⟨a1, p1, rfl⟩ := row_slice o1
    obtain ⟨l1, h1'⟩ : ∃ l, x.members.length = l := ⟨_, rfl⟩
    simp only [Ent.cells, h1'] at o1 ⊢
    have O1 := hide o1
    have HL1 := hide h1'
    clear o1 h1' h0 h1
    go_wp2
    clear c0 c1 c2 c3 c4 c5 f2
    obtain ⟨y0, hx⟩ : ∃ yy : World, yy = w2.setCell ⟨w.heap.size, 0, none⟩ (.int .i64 x.kind) := ⟨_, rfl⟩
    rw [← hx]
    have P0 : Only w.heap.size [24] w2 y0 ∧ y0.heap[w.heap.size]? = some (.cells #[.int .i64 x.kind, .int .i64 0, .int .i64 0, .string ⟨#[]⟩, .slice none 0 0, .int .i64 0] 24 (0, 0)) := by rw [hx]; exact set_one ⟨Only.refl _ _ _, unhide HQ2⟩ (Nat.le_refl _) (by simp) 0 _
    clear hx
    obtain ⟨y1, hx⟩ : ∃ yy : World, yy = y0.setCell ⟨w.heap.size, 1, none⟩ (.int .i64 x.client) := ⟨_, rfl⟩
    rw [← hx]
    have P1 : Only w.heap.size [24] w2 y1 ∧ y1.heap[w.heap.size]? = some (.cells #[.int .i64 x.kind, .int .i64 x.client, .int .i64 0, .string ⟨#[]⟩, .slice none 0 0, .int .i64 0] 24 (0, 0)) := by rw [hx]; exact set_one P0 (Nat.le_refl _) (by simp) 1 _
    clear hx
    obtain ⟨y2, hx⟩ : ∃ yy : World, yy = y1.setCell ⟨w.heap.size, 2, none⟩ (.int .i64 x.seq) := ⟨_, rfl⟩
    rw [← hx]
    have P2 : Only w.heap.size [24] w2 y2 ∧ y2.heap[w.heap.size]? = some (.cells #[.int .i64 x.kind, .int .i64 x.client, .int .i64 x.seq, .string ⟨#[]⟩, .slice none 0 0, .int .i64 0] 24 (0, 0)) := by rw [hx]; exact set_one P1 (Nat.le_refl _) (by simp) 2 _
    clear hx
    obtain ⟨y3, hx⟩ : ∃ yy : World, yy = y2.setCell ⟨w.heap.size, 3, none⟩ (.string (str x.data)) := ⟨_, rfl⟩
    rw [← hx]
    have P3 : Only w.heap.size [24] w2 y3 ∧ y3.heap[w.heap.size]? = some (.cells #[.int .i64 x.kind, .int .i64 x.client, .int .i64 x.seq, .string (str x.data), .slice none 0 0, .int .i64 0] 24 (0, 0)) := by rw [hx]; exact set_one P2 (Nat.le_refl _) (by simp) 3 _
    clear hx
    obtain ⟨y4, hx⟩ : ∃ yy : World, yy = y3.setCell ⟨w.heap.size, 4, none⟩ (.slice a1 l1 p1) := ⟨_, rfl⟩
    rw [← hx]
    have P4 : Only w.heap.size [24] w2 y4 ∧ y4.heap[w.heap.size]? = some (.cells #[.int .i64 x.kind, .int .i64 x.client, .int .i64 x.seq, .string (str x.data), .slice a1 l1 p1, .int .i64 0] 24 (0, 0)) := by rw [hx]; exact set_one P3 (Nat.le_refl _) (by simp) 4 _
    clear hx
    obtain ⟨y5, hx⟩ : ∃ yy : World, yy = y4.setCell ⟨w.heap.size, 5, none⟩ (.int .i64 x.to') := ⟨_, rfl⟩
    rw [← hx]
    have P5 : Only w.heap.size [24] w2 y5 ∧ y5.heap[w.heap.size]? = some (.cells #[.int .i64 x.kind, .int .i64 x.client, .int .i64 x.seq, .string (str x.data), .slice a1 l1 p1, .int .i64 x.to'] 24 (0, 0)) := by rw [hx]; exact set_one P4 (Nat.le_refl _) (by simp) 5 _
    clear hx
    have c0 : y5.cell? ⟨w.heap.size, 0, none⟩ = some (.int .i64 x.kind) := (cell_of_block P5.2).trans rfl
    have c1 : y5.cell? ⟨w.heap.size, 1, none⟩ = some (.int .i64 x.client) := (cell_of_block P5.2).trans rfl
    have c2 : y5.cell? ⟨w.heap.size, 2, none⟩ = some (.int .i64 x.seq) := (cell_of_block P5.2).trans rfl
    have c3 : y5.cell? ⟨w.heap.size, 3, none⟩ = some (.string (str x.data)) := (cell_of_block P5.2).trans rfl
    have c4 : y5.cell? ⟨w.heap.size, 4, none⟩ = some (.slice a1 l1 p1) := (cell_of_block P5.2).trans rfl
    have c5 : y5.cell? ⟨w.heap.size, 5, none⟩ = some (.int .i64 x.to') := (cell_of_block P5.2).trans rfl
    refine bodyPost_ret (v := .tuple #[.agg #[.int .i64 x.kind, .int .i64 x.client, .int .i64 x.seq, .string (str x.data), .slice a1 l1 p1, .int .i64 x.to'], .int .i64 0]) (by simp [results, Tryd.results13, go_sem, c0, c1, c2, c3, c4, c5]) rfl ?_
    have O1 := hide (own_only (unhide O1) P5.1 (by decide))
    have FIN : EntIs w.heap.size y5 #[.int .i64 x.kind, .int .i64 x.client, .int .i64 x.seq, .string (str x.data), .slice a1 l1 p1, .int .i64 x.to'] x := ⟨.slice a1 l1 p1, rfl, by rw [unhide HL1]; exact own_wide (unhide O1) (by omega)⟩
    refine ⟨#[.int .i64 x.kind, .int .i64 x.client, .int .i64 x.seq, .string (str x.data), .slice a1 l1 p1, .int .i64 x.to'], rfl, (unhide B2).trans P5.1.below, ?_⟩
    first | exact ⟨fun _ => FIN, fun h => absurd rfl h⟩ | exact FIN | exact ⟨FIN, trivial⟩
  · obtain rfl := h1 hz
    have HZ := hide hz
    clear h0 h1 hz
    go_wp2
    clear c0 c1 c2 c3 c4 c5 f2
    obtain ⟨y0, hx⟩ : ∃ yy : World, yy = w2.setCell ⟨w.heap.size, 0, none⟩ (.int .i64 0) := ⟨_, rfl⟩
    rw [← hx]
    have P0 : Only w.heap.size [24] w2 y0 ∧ y0.heap[w.heap.size]? = some (.cells #[.int .i64 0, .int .i64 0, .int .i64 0, .string ⟨#[]⟩, .slice none 0 0, .int .i64 0] 24 (0, 0)) := by rw [hx]; exact set_one ⟨Only.refl _ _ _, unhide HQ2⟩ (Nat.le_refl _) (by simp) 0 _
    clear hx
    obtain ⟨y1, hx⟩ : ∃ yy : World, yy = y0.setCell ⟨w.heap.size, 1, none⟩ (.int .i64 0) := ⟨_, rfl⟩
    rw [← hx]
    have P1 : Only w.heap.size [24] w2 y1 ∧ y1.heap[w.heap.size]? = some (.cells #[.int .i64 0, .int .i64 0, .int .i64 0, .string ⟨#[]⟩, .slice none 0 0, .int .i64 0] 24 (0, 0)) := by rw [hx]; exact set_one P0 (Nat.le_refl _) (by simp) 1 _
    clear hx
    obtain ⟨y2, hx⟩ : ∃ yy : World, yy = y1.setCell ⟨w.heap.size, 2, none⟩ (.int .i64 0) := ⟨_, rfl⟩
    rw [← hx]
    have P2 : Only w.heap.size [24] w2 y2 ∧ y2.heap[w.heap.size]? = some (.cells #[.int .i64 0, .int .i64 0, .int .i64 0, .string ⟨#[]⟩, .slice none 0 0, .int .i64 0] 24 (0, 0)) := by rw [hx]; exact set_one P1 (Nat.le_refl _) (by simp) 2 _
    clear hx
    obtain ⟨y3, hx⟩ : ∃ yy : World, yy = y2.setCell ⟨w.heap.size, 3, none⟩ (.string ⟨#[]⟩) := ⟨_, rfl⟩
    rw [← hx]
    have P3 : Only w.heap.size [24] w2 y3 ∧ y3.heap[w.heap.size]? = some (.cells #[.int .i64 0, .int .i64 0, .int .i64 0, .string ⟨#[]⟩, .slice none 0 0, .int .i64 0] 24 (0, 0)) := by rw [hx]; exact set_one P2 (Nat.le_refl _) (by simp) 3 _
    clear hx
    obtain ⟨y4, hx⟩ : ∃ yy : World, yy = y3.setCell ⟨w.heap.size, 4, none⟩ (.slice none 0 0) := ⟨_, rfl⟩
    rw [← hx]
    have P4 : Only w.heap.size [24] w2 y4 ∧ y4.heap[w.heap.size]? = some (.cells #[.int .i64 0, .int .i64 0, .int .i64 0, .string ⟨#[]⟩, .slice none 0 0, .int .i64 0] 24 (0, 0)) := by rw [hx]; exact set_one P3 (Nat.le_refl _) (by simp) 4 _
    clear hx
    obtain ⟨y5, hx⟩ : ∃ yy : World, yy = y4.setCell ⟨w.heap.size, 5, none⟩ (.int .i64 0) := ⟨_, rfl⟩
    rw [← hx]
    have P5 : Only w.heap.size [24] w2 y5 ∧ y5.heap[w.heap.size]? = some (.cells #[.int .i64 0, .int .i64 0, .int .i64 0, .string ⟨#[]⟩, .slice none 0 0, .int .i64 0] 24 (0, 0)) := by rw [hx]; exact set_one P4 (Nat.le_refl _) (by simp) 5 _
    clear hx
    have c0 : y5.cell? ⟨w.heap.size, 0, none⟩ = some (.int .i64 0) := (cell_of_block P5.2).trans rfl
    have c1 : y5.cell? ⟨w.heap.size, 1, none⟩ = some (.int .i64 0) := (cell_of_block P5.2).trans rfl
    have c2 : y5.cell? ⟨w.heap.size, 2, none⟩ = some (.int .i64 0) := (cell_of_block P5.2).trans rfl
    have c3 : y5.cell? ⟨w.heap.size, 3, none⟩ = some (.string ⟨#[]⟩) := (cell_of_block P5.2).trans rfl
    have c4 : y5.cell? ⟨w.heap.size, 4, none⟩ = some (.slice none 0 0) := (cell_of_block P5.2).trans rfl
    have c5 : y5.cell? ⟨w.heap.size, 5, none⟩ = some (.int .i64 0) := (cell_of_block P5.2).trans rfl
    refine bodyPost_ret (v := .tuple #[.agg #[.int .i64 0, .int .i64 0, .int .i64 0, .string ⟨#[]⟩, .slice none 0 0, .int .i64 0], .int .i64 (fe : Int)]) (by simp [results, Tryd.results13, go_sem, c0, c1, c2, c3, c4, c5]) rfl ?_
    exact ⟨#[.int .i64 0, .int .i64 0, .int .i64 0, .string ⟨#[]⟩, .slice none 0 0, .int .i64 0], rfl, (unhide B2).trans P5.1.below, fun h => absurd h (unhide HZ), fun _ => rfl⟩
end Go.Proofs.YtojmnlbdhpledaaDoor

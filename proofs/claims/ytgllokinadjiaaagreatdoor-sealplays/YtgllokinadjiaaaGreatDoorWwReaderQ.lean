/- wire.parse of an entry, of a configuration, of a message: contracts. wire.parse of an entry, of a configuration, of a message: contracts. seal.parseOne: a contract. seal.parseOne: where a slice's room ends behind the three numbers; a contract for any slice. -/
import Derived.Test.YtgllokinadjiaaaGreatDoorWwReaderN
import Derived.Deep.RegionWith
import Derived.Test.YtgllokinadjiaaaGreatDoorWwReadPut
import Derived.Test.YtgllokinadjiaaaGreatDoorSAdd2
namespace Go.Proofs.YtgllokinadjiaaaGreatDoor.Ww
open Go.RowKit
theorem heap_lt {w : World} {b : Nat} {o : Obj} (h : w.heap[b]? = some o) : b < w.heap.size := by
  by_cases hl : b < w.heap.size
  · exact hl
  · rw [Array.getElem?_eq_none (by omega)] at h; cases h
theorem drew_below (w : World) : Below w.heap.size w w.drew := (Below.refl _ w).drew
/-- these cells are that entry. -/
def EntIs (base : Nat) (w : World) (cs : Array Value) (x : Ent) : Prop := ∃ v, cs = x.cells v ∧ w.ownsRow base 3 1 v x.members.length (i64s x.members)

end Go.Proofs.YtgllokinadjiaaaGreatDoor.Ww
namespace Go.Proofs.YtgllokinadjiaaaGreatDoor.Ww
open Go.RowKit
/-- these cells are that configuration. -/
def ConfIs (base : Nat) (w : World) (cs : Array Value) (x : List Int × List Int) : Prop := ∃ v1 v2, cs = #[v1, v2] ∧ w.ownsRow base 3 1 v1 x.1.length (i64s x.1) ∧ w.ownsRow base 3 1 v2 x.2.length (i64s x.2)

set_option maxRecDepth 20000 in
set_option maxHeartbeats 4000000 in
theorem parseConfig (ao : Option Addr) (n cap : Nat) (bs : List Nat) (w : World) (hg : Given w ao n cap bs) (hS : Start w) :
    Calls Tryz.prog 82 #[.slice ao n cap, .func (.func 83) #[] #[]] w fun e w' => ∃ cs, e = .returned (.tuple #[.agg cs, .int .i64 (((rend n (rconfig bs (0, 0)).2).2 : Nat) : Int)]) ∧ Below w.heap.size w w' ∧
      ((rend n (rconfig bs (0, 0)).2).2 = 0 → ConfIs w.heap.size w' cs (rconfig bs (0, 0)).1) ∧
      ((rend n (rconfig bs (0, 0)).2).2 ≠ 0 → cs = #[.slice none 0 0, .slice none 0 0]) := by
  obtain ⟨w1, hw1⟩ : ∃ w1, (w.alloc (.cells #[.slice none 0 0, .slice none 0 0] 24)).alloc (.cells #[.slice ao n cap, .int .i64 0, .nilIface] 167) = w1 := ⟨_, rfl⟩
  have b1 : Below w.heap.size w w1 := by rw [← hw1]; exact ((Below.refl _ w).alloc (Nat.le_refl _) _).alloc (by simp) _
  have hp1 : w1.heap[w.heap.size + 1]? = some (.cells #[.slice ao n cap, .int .i64 0, .nilIface] 167 (0, 0)) := by
    rw [← hw1]
    have h := heap_alloc_new (w.alloc (.cells #[.slice none 0 0, .slice none 0 0] 24)) (.cells #[.slice ao n cap, .int .i64 0, .nilIface] 167)
    simpa using h
  have hq1 : w1.heap[w.heap.size]? = some (.cells #[.slice none 0 0, .slice none 0 0] 24 (0, 0)) := by
    rw [← hw1]
    exact (Below.heap_alloc _ _ _ (by simp)).trans (heap_alloc_new _ _)
  have z1 : w.heap.size + 2 ≤ w1.heap.size := by rw [← hw1]; simp
  have R1 : Hid (Rg w.heap.size w1 w1 (w.heap.size + 1) ao n cap bs (0, 0)) := Rg.start (s := (0, 0)) ⟨_, hp1, by omega, Or.inl ⟨rfl, rfl⟩, Nat.zero_le _⟩ (hg.src b1) b1.size
  have S1 := hide (hS.below b1)
  have ZG := hide hS.2.2
  have B1 := hide b1
  have HQ1 := hide hq1
  have HW1 := hide hw1
  clear b1 hp1 hq1 hw1 hS hg
  have C2 := hide (rg_config (unhide R1))
  obtain ⟨X, hX⟩ : ∃ X, rconfig bs (0, 0) = X := ⟨_, rfl⟩
  rw [hX] at C2 ⊢
  clear hX
  obtain ⟨⟨x0, x1⟩, sx⟩ := X
  obtain ⟨F, hF⟩ : ∃ F, rend n sx = F := ⟨_, rfl⟩
  simp only [hF]
  have HF := hide hF
  clear hF
  obtain ⟨fp, fe⟩ := F
  simp only at C2 ⊢
  go_enter Tryz.func82, Tryz.ntmps82
  go_wp2_with fail
  rw [unhide HW1]
  clear HW1
  refine (unhide C2).mono ?_
  rintro e w2 ⟨ao1, cap1, ao2, cap2, rfl, o1, o2, r2, k2⟩
  obtain ⟨n0, hn0⟩ : ∃ n0, x0.length = n0 := ⟨_, rfl⟩
  obtain ⟨n1, hn1⟩ : ∃ n1, x1.length = n1 := ⟨_, rfl⟩
  simp only [hn0, hn1] at o1 o2 ⊢
  have HN0 := hide hn0
  have HN1 := hide hn1
  have O1 := hide o1
  have O2 := hide o2
  have B2 := hide ((unhide B1).trans k2.below)
  have HQ2 := hide (k2.block (unhide HQ1) (by decide))
  have R2 := hide (r2.alloc (.cells #[.slice ao1 n0 cap1, .slice ao2 n1 cap2] 24))
  have z2 : w.heap.size + 2 ≤ w2.heap.size := Nat.le_trans z1 k2.size
  clear r2 k2 R1 HQ1 B1 C2 o1 o2 hn0 hn1
  have E3 := hide (rg_end (unhide R2))
  rw [unhide HF] at E3
  go_wp2_with fail
  refine (unhide E3).mono ?_
  rintro e w4 ⟨rfl, r4, k4⟩
  have b24 : Below w.heap.size w2 w4 := ((Below.refl _ w2).alloc (by omega) _).trans k4.below
  have B4 := hide ((unhide B2).trans b24)
  have ht4 := k4.block (heap_alloc_new w2 (.cells #[.slice ao1 n0 cap1, .slice ao2 n1 cap2] 24)) (by decide)
  have hq4 := k4.block (((Below.heap_alloc w2 (.cells #[.slice ao1 n0 cap1, .slice ao2 n1 cap2] 24) _ (by omega))).trans (unhide HQ2)) (by decide)
  have G4 := hide ((unhide S1).2.1.below ((unhide R2).2.2.2.trans k4).below (by have := unhide ZG; omega))
  have z4 : w2.heap.size + 1 ≤ w4.heap.size := by have := k4.size; simp at this; exact this
  have FINo1 := hide (own_only (own_below (unhide O1) ((Below.refl _ w2).alloc (Nat.le_refl _) _)) k4 (by decide))
  have FINo2 := hide (own_only (own_below (unhide O2) ((Below.refl _ w2).alloc (Nat.le_refl _) _)) k4 (by decide))
  obtain ⟨ev, hp4, _, herr, _⟩ := r4.1
  have e2 : w4.cell? ⟨w.heap.size + 1, 2, none⟩ = some ev := (cell_of_block hp4).trans rfl
  have a0 : w4.cell? ⟨w2.heap.size, 0, none⟩ = some (.slice ao1 n0 cap1) := (cell_of_block ht4).trans rfl
  have a1 : w4.cell? ⟨w2.heap.size, 1, none⟩ = some (.slice ao2 n1 cap2) := (cell_of_block ht4).trans rfl
  have c0 : w4.cell? ⟨w.heap.size, 0, none⟩ = some (.slice none 0 0) := (cell_of_block hq4).trans rfl
  have c1 : w4.cell? ⟨w.heap.size, 1, none⟩ = some (.slice none 0 0) := (cell_of_block hq4).trans rfl
  have f4 : ∀ i, w4.frozen? ⟨w.heap.size, i, none⟩ = false := fun i => free_of_block hq4
  have HQ4 := hide hq4
  simp only at herr
  clear k4 b24 ht4 hq4 hp4 r4 R2 E3 HQ2 B2
  by_cases hz : fe = 0
  · subst hz
    obtain rfl := herr.none
    clear herr
    go_wp2
    obtain ⟨y0, hx⟩ : ∃ x : World, x = w4.setCell ⟨w.heap.size, 0, none⟩ (.slice ao1 n0 cap1) := ⟨_, rfl⟩
    rw [← hx]
    have p0 : Only w.heap.size [24] w4 y0 ∧ y0.heap[w.heap.size]? = some (.cells #[.slice ao1 n0 cap1, .slice none 0 0] 24 (0, 0)) := by rw [hx]; exact set_one ⟨Only.refl _ _ _, unhide HQ4⟩ (Nat.le_refl _) (by simp) 0 _
    clear hx
    obtain ⟨y1, hx⟩ : ∃ x : World, x = y0.setCell ⟨w.heap.size, 1, none⟩ (.slice ao2 n1 cap2) := ⟨_, rfl⟩
    rw [← hx]
    have p1 : Only w.heap.size [24] w4 y1 ∧ y1.heap[w.heap.size]? = some (.cells #[.slice ao1 n0 cap1, .slice ao2 n1 cap2] 24 (0, 0)) := by rw [hx]; exact set_one p0 (Nat.le_refl _) (by simp) 1 _
    clear hx
    clear a0 c0 a1 c1 f4
    have c0 : y1.cell? ⟨w.heap.size, 0, none⟩ = some (.slice ao1 n0 cap1) := (cell_of_block p1.2).trans rfl
    have c1 : y1.cell? ⟨w.heap.size, 1, none⟩ = some (.slice ao2 n1 cap2) := (cell_of_block p1.2).trans rfl
    refine bodyPost_ret (v := .tuple #[.agg #[.slice ao1 n0 cap1, .slice ao2 n1 cap2], .int .i64 0]) (by simp [results, Tryz.results82, go_sem, c0, c1]) rfl ?_
    refine ⟨#[.slice ao1 n0 cap1, .slice ao2 n1 cap2], rfl, (unhide B4).trans p1.1.below, ?_⟩
    have FINo1 := hide (own_only (unhide FINo1) p1.1 (by decide))
    have FINo2 := hide (own_only (unhide FINo2) p1.1 (by decide))
    have FIN := (show ConfIs w.heap.size y1 #[.slice ao1 n0 cap1, .slice ao2 n1 cap2] (x0, x1) from ⟨_, _, rfl, by rw [unhide HN0]; exact own_wide (unhide FINo1) (by omega), by rw [unhide HN1]; exact own_wide (unhide FINo2) (by omega)⟩)
    first | exact ⟨fun _ => FIN, fun h => absurd rfl h⟩ | exact FIN | exact ⟨FIN, trivial⟩
  · have HZ := hide hz
    have HEN := hide herr.err
    rcases herr with ⟨h0, _⟩ | ⟨b, xb, _, rfl, hfb⟩
    · exact absurd h0 hz
    clear hz a0 a1
    have hn5 := heap_alloc_new w4 (.cells #[.slice none 0 0, .slice none 0 0] 24)
    have b45 : Below w4.heap.size w4 (w4.alloc (.cells #[.slice none 0 0, .slice none 0 0] 24)) := (Below.refl _ w4).alloc (Nat.le_refl _) _
    obtain ⟨w5, hw5⟩ : ∃ w5, w4.alloc (.cells #[.slice none 0 0, .slice none 0 0] 24) = w5 := ⟨_, rfl⟩
    have HW5 := hide hw5
    rw [hw5] at hn5 b45
    have z5 : w4.heap.size + 1 ≤ w5.heap.size := by rw [← hw5]; simp
    have hq5 := (b45.block w.heap.size (by omega)).trans (unhide HQ4)
    have hp5 : w5.cell? ⟨w.heap.size + 1, 2, none⟩ = some (.iface 153 (.pointer (some ⟨b, 0, none⟩))) := by rw [b45.cell (by simp only; omega)]; exact e2
    have G5 := hide ((unhide G4).below (b45.mono (Nat.le_refl _)) (by have := unhide ZG; omega))
    have HE5 : Hid (Err w5 (.iface 153 (.pointer (some ⟨b, 0, none⟩))) fe) := ErrB.err (Or.inr ⟨b, xb, unhide HZ, rfl, (b45.block b (heap_lt hfb)).trans hfb⟩)
    have B5 := hide ((unhide B4).trans (b45.mono (by omega)))
    have N5 := hide (number_any (.iface 153 (.pointer (some ⟨b, 0, none⟩))) fe w5.drew ((unhide G5).below (drew_below w5) (by have := unhide ZG; omega)) (ErrB.err (ErrB.only (Or.inr ⟨b, xb, unhide HZ, rfl, (b45.block b (heap_lt hfb)).trans hfb⟩) (Only.of_below (ts := []) (drew_below w5) (Nat.le_refl _)) (by simp))))
    clear hfb
    have HN5 := hide hn5
    have HQ5 := hide hq5
    have m5 : ∀ w6, Below w5.drew.heap.size w5.drew w6 → w6.heap[w4.heap.size]? = some (.cells #[.slice none 0 0, .slice none 0 0] 24 (0, 0)) ∧ w6.heap[w.heap.size]? = some (.cells #[.slice none 0 0, .slice none 0 0] 24 (0, 0)) := fun w6 hb => ⟨(hb.block _ (show w4.heap.size < w5.heap.size by omega)).trans (unhide HN5), (hb.block _ (show w.heap.size < w5.heap.size by omega)).trans (unhide HQ5)⟩
    have M5 := hide m5
    clear hw5 b45 m5 hn5 hq5 c0 c1 f4
    go_wp2_with fail
    rw [unhide HW5]
    clear e2
    have n0 : w5.drew.cell? ⟨w4.heap.size, 0, none⟩ = some (.slice none 0 0) := (cell_of_block (unhide HN5)).trans rfl
    have n1 : w5.drew.cell? ⟨w4.heap.size, 1, none⟩ = some (.slice none 0 0) := (cell_of_block (unhide HN5)).trans rfl
    have e5 : w5.drew.cell? ⟨w.heap.size + 1, 2, none⟩ = some (.iface 153 (.pointer (some ⟨b, 0, none⟩))) := hp5
    clear hp5
    go_region_with (go_at_call 63; refine (unhide N5).mono ?_; rintro e w6 ⟨rfl, b6⟩; have h6 := unhide M5 w6 b6; have q0 : w6.cell? ⟨w4.heap.size, 0, none⟩ = some (.slice none 0 0) := (cell_of_block h6.1).trans rfl; have q1 : w6.cell? ⟨w4.heap.size, 1, none⟩ = some (.slice none 0 0) := (cell_of_block h6.1).trans rfl; have c0 : w6.cell? ⟨w.heap.size, 0, none⟩ = some (.slice none 0 0) := (cell_of_block h6.2).trans rfl; have c1 : w6.cell? ⟨w.heap.size, 1, none⟩ = some (.slice none 0 0) := (cell_of_block h6.2).trans rfl; have f6 : ∀ i, w6.frozen? ⟨w.heap.size, i, none⟩ = false := fun i => free_of_block h6.2; have H6 := hide h6.2; have B6 := hide b6; clear h6 b6)
    all_goals go_wp2
    all_goals
      obtain ⟨y0, hx⟩ : ∃ x : World, x = w6.setCell ⟨w.heap.size, 0, none⟩ (.slice none 0 0) := ⟨_, rfl⟩
      rw [← hx]
      have p0 : Only w.heap.size [24] w6 y0 ∧ y0.heap[w.heap.size]? = some (.cells #[.slice none 0 0, .slice none 0 0] 24 (0, 0)) := by rw [hx]; exact set_one ⟨Only.refl _ _ _, unhide H6⟩ (Nat.le_refl _) (by simp) 0 _
      clear hx
      obtain ⟨y1, hx⟩ : ∃ x : World, x = y0.setCell ⟨w.heap.size, 1, none⟩ (.slice none 0 0) := ⟨_, rfl⟩
      rw [← hx]
      have p1 : Only w.heap.size [24] w6 y1 ∧ y1.heap[w.heap.size]? = some (.cells #[.slice none 0 0, .slice none 0 0] 24 (0, 0)) := by rw [hx]; exact set_one p0 (Nat.le_refl _) (by simp) 1 _
      clear hx
      clear q0 c0 n0 q1 c1 n1 f6
      have c0 : y1.cell? ⟨w.heap.size, 0, none⟩ = some (.slice none 0 0) := (cell_of_block p1.2).trans rfl
      have c1 : y1.cell? ⟨w.heap.size, 1, none⟩ = some (.slice none 0 0) := (cell_of_block p1.2).trans rfl
      refine bodyPost_ret (v := .tuple #[.agg #[.slice none 0 0, .slice none 0 0], .int .i64 (fe : Int)]) (by simp [results, Tryz.results82, go_sem, c0, c1]) rfl ?_
      exact ⟨#[.slice none 0 0, .slice none 0 0], rfl, (unhide B5).trans (((drew_below w5).mono (by omega)).trans (((unhide B6).mono (show w.heap.size ≤ w5.heap.size by omega)).trans p1.1.below)), fun h => absurd h (unhide HZ), fun _ => rfl⟩

set_option maxRecDepth 20000 in
set_option maxHeartbeats 4000000 in
/-- wire.ParseConfig. -/
theorem parseConfig_any (ao : Option Addr) (n cap : Nat) (bs : List Nat) (w : World) (hg : Given w ao n cap bs) (hS : Start w) :
    Calls Tryz.prog 73 #[.slice ao n cap] w fun e w' => ∃ cs, e = .returned (.tuple #[.agg cs, .int .i64 (((rend n (rconfig bs (0, 0)).2).2 : Nat) : Int)]) ∧ Below w.heap.size w w' ∧
      ((rend n (rconfig bs (0, 0)).2).2 = 0 → ConfIs w.heap.size w' cs (rconfig bs (0, 0)).1) ∧
      ((rend n (rconfig bs (0, 0)).2).2 ≠ 0 → cs = #[.slice none 0 0, .slice none 0 0]) := by
  obtain ⟨w1, hw1⟩ : ∃ w1, w.alloc (.cells #[.slice none 0 0, .slice none 0 0] 24) = w1 := ⟨_, rfl⟩
  have b1 : Below w.heap.size w w1 := by rw [← hw1]; exact (Below.refl _ w).alloc (Nat.le_refl _) _
  have hq1 : w1.heap[w.heap.size]? = some (.cells #[.slice none 0 0, .slice none 0 0] 24 (0, 0)) := by rw [← hw1]; exact heap_alloc_new _ _
  have z1 : w.heap.size + 1 ≤ w1.heap.size := by rw [← hw1]; simp
  have C1 := hide (parseConfig ao n cap bs w1 (hg.below b1) (hS.below b1))
  have B1 := hide b1
  have HQ1 := hide hq1
  have HW1 := hide hw1
  clear b1 hq1 hw1 hS hg
  obtain ⟨X, hX⟩ : ∃ X, rconfig bs (0, 0) = X := ⟨_, rfl⟩
  rw [hX] at C1 ⊢
  clear hX
  obtain ⟨x, sx⟩ := X
  obtain ⟨F, hF⟩ : ∃ F, rend n sx = F := ⟨_, rfl⟩
  simp only [hF] at C1 ⊢
  clear hF
  obtain ⟨fp, fe⟩ := F
  simp only at C1 ⊢
  go_enter Tryz.func73, Tryz.ntmps73
  go_wp2_with fail
  rw [unhide HW1]
  clear HW1
  refine (unhide C1).mono ?_
  rintro e w2 ⟨cs, rfl, b2, h0, h1⟩
  have hq2 := (b2.block w.heap.size (by omega)).trans (unhide HQ1)
  have c0 : w2.cell? ⟨w.heap.size, 0, none⟩ = some (.slice none 0 0) := (cell_of_block hq2).trans rfl
  have c1 : w2.cell? ⟨w.heap.size, 1, none⟩ = some (.slice none 0 0) := (cell_of_block hq2).trans rfl
  have f2 : ∀ i, w2.frozen? ⟨w.heap.size, i, none⟩ = false := fun i => free_of_block hq2
  have HQ2 := hide hq2
  have B2 := hide ((unhide B1).trans (b2.mono (by omega)))
  clear hq2 b2 C1 HQ1 B1
  by_cases hz : fe = 0
  · subst hz
    obtain ⟨v, v', rfl, o1, o2⟩ := h0 rfl
    obtain ⟨a1, p1, rfl⟩ := row_slice o1
    obtain ⟨a2, p2, rfl⟩ := row_slice o2
    obtain ⟨l1, h1'⟩ : ∃ l, x.1.length = l := ⟨_, rfl⟩
    obtain ⟨l2, h2'⟩ : ∃ l, x.2.length = l := ⟨_, rfl⟩
    simp only [h1', h2'] at o1 o2 ⊢
    have O1 := hide o1
    have O2 := hide o2
    have HL1 := hide h1'
    have HL2 := hide h2'
    clear o1 o2 h1' h2' h0 h1
    go_wp2
    clear c0 c1 f2
    obtain ⟨y0, hx⟩ : ∃ yy : World, yy = w2.setCell ⟨w.heap.size, 0, none⟩ (.slice a1 l1 p1) := ⟨_, rfl⟩
    rw [← hx]
    have P0 : Only w.heap.size [24] w2 y0 ∧ y0.heap[w.heap.size]? = some (.cells #[.slice a1 l1 p1, .slice none 0 0] 24 (0, 0)) := by rw [hx]; exact set_one ⟨Only.refl _ _ _, unhide HQ2⟩ (Nat.le_refl _) (by simp) 0 _
    clear hx
    obtain ⟨y1, hx⟩ : ∃ yy : World, yy = y0.setCell ⟨w.heap.size, 1, none⟩ (.slice a2 l2 p2) := ⟨_, rfl⟩
    rw [← hx]
    have P1 : Only w.heap.size [24] w2 y1 ∧ y1.heap[w.heap.size]? = some (.cells #[.slice a1 l1 p1, .slice a2 l2 p2] 24 (0, 0)) := by rw [hx]; exact set_one P0 (Nat.le_refl _) (by simp) 1 _
    clear hx
    have c0 : y1.cell? ⟨w.heap.size, 0, none⟩ = some (.slice a1 l1 p1) := (cell_of_block P1.2).trans rfl
    have c1 : y1.cell? ⟨w.heap.size, 1, none⟩ = some (.slice a2 l2 p2) := (cell_of_block P1.2).trans rfl
    refine bodyPost_ret (v := .tuple #[.agg #[.slice a1 l1 p1, .slice a2 l2 p2], .int .i64 0]) (by simp [results, Tryz.results73, go_sem, c0, c1]) rfl ?_
    have O1 := hide (own_only (unhide O1) P1.1 (by decide))
    have O2 := hide (own_only (unhide O2) P1.1 (by decide))
    have FIN : ConfIs w.heap.size y1 #[.slice a1 l1 p1, .slice a2 l2 p2] x := ⟨.slice a1 l1 p1, .slice a2 l2 p2, rfl, by rw [unhide HL1]; exact own_wide (unhide O1) (by omega), by rw [unhide HL2]; exact own_wide (unhide O2) (by omega)⟩
    refine ⟨#[.slice a1 l1 p1, .slice a2 l2 p2], rfl, (unhide B2).trans P1.1.below, ?_⟩
    first | exact ⟨fun _ => FIN, fun h => absurd rfl h⟩ | exact FIN | exact ⟨FIN, trivial⟩
  · obtain rfl := h1 hz
    have HZ := hide hz
    clear h0 h1 hz
    go_wp2
    clear c0 c1 f2
    obtain ⟨y0, hx⟩ : ∃ yy : World, yy = w2.setCell ⟨w.heap.size, 0, none⟩ (.slice none 0 0) := ⟨_, rfl⟩
    rw [← hx]
    have P0 : Only w.heap.size [24] w2 y0 ∧ y0.heap[w.heap.size]? = some (.cells #[.slice none 0 0, .slice none 0 0] 24 (0, 0)) := by rw [hx]; exact set_one ⟨Only.refl _ _ _, unhide HQ2⟩ (Nat.le_refl _) (by simp) 0 _
    clear hx
    obtain ⟨y1, hx⟩ : ∃ yy : World, yy = y0.setCell ⟨w.heap.size, 1, none⟩ (.slice none 0 0) := ⟨_, rfl⟩
    rw [← hx]
    have P1 : Only w.heap.size [24] w2 y1 ∧ y1.heap[w.heap.size]? = some (.cells #[.slice none 0 0, .slice none 0 0] 24 (0, 0)) := by rw [hx]; exact set_one P0 (Nat.le_refl _) (by simp) 1 _
    clear hx
    have c0 : y1.cell? ⟨w.heap.size, 0, none⟩ = some (.slice none 0 0) := (cell_of_block P1.2).trans rfl
    have c1 : y1.cell? ⟨w.heap.size, 1, none⟩ = some (.slice none 0 0) := (cell_of_block P1.2).trans rfl
    refine bodyPost_ret (v := .tuple #[.agg #[.slice none 0 0, .slice none 0 0], .int .i64 (fe : Int)]) (by simp [results, Tryz.results73, go_sem, c0, c1]) rfl ?_
    exact ⟨#[.slice none 0 0, .slice none 0 0], rfl, (unhide B2).trans P1.1.below, fun h => absurd h (unhide HZ), fun _ => rfl⟩
end Go.Proofs.YtgllokinadjiaaaGreatDoor.Ww
namespace Go.Proofs.YtgllokinadjiaaaGreatDoor
open Go.RowKit Go.Maps
open Ww (Given joinTo rconfig rend ConfIs own_only own_wide row_slice Only set_one drew_below)

/-- a generation as bytes tell it, such as may not be, too. -/
structure Pg where
  n : Int
  eng : Int
  base : Int
  old : List Int
  ms : List Int
def int8 (bs : List Nat) (j : Nat) : Int := wrap64 ((joinTo 0 ((bs.drop (8 * j)).take 8) : Nat) : Int)
def oneCfg (bs : List Nat) : List Nat := (bs.drop 24).take (cfgSize (bs.drop 24))
def oneErr (bs : List Nat) : Nat := if bs.length < 24 then 8 else (rend (cfgSize (bs.drop 24)) (rconfig (oneCfg bs) (0, 0)).2).2
def onePg (bs : List Nat) : Pg := ⟨int8 bs 0, int8 bs 1, int8 bs 2, (rconfig (oneCfg bs) (0, 0)).1.1, (rconfig (oneCfg bs) (0, 0)).1.2⟩
def oneSize (bs : List Nat) : Nat := 24 + cfgSize (bs.drop 24)
def Pg.cells (g : Pg) (v1 v2 : Value) : Array Value := #[.int .i64 g.n, .int .i64 g.eng, .int .i64 g.base, v1, v2]
def noGen : Array Value := #[.int .i64 0, .int .i64 0, .int .i64 0, .slice none 0 0, .slice none 0 0]

set_option maxRecDepth 20000 in
set_option maxHeartbeats 600000 in
theorem parseOne_any (ao : Option Addr) (n cap : Nat) (bs : List Nat) (w : World) (hg : Given w ao n cap bs) (hS : Ww.Start w) (hcap : n < 24 ∨ ¬ cap = 24) :
    Calls Tryz.prog 66 #[.slice ao n cap] w fun x w' => Below w.heap.size w w' ∧
      (oneErr bs ≠ 0 → x = .returned (.tuple #[.agg noGen, .int .i64 0, .int .i64 ((oneErr bs : Nat) : Int)])) ∧
      (oneErr bs = 0 → ∃ v1 v2, x = .returned (.tuple #[.agg ((onePg bs).cells v1 v2), .int .i64 ((oneSize bs : Nat) : Int), .int .i64 0]) ∧
        w'.ownsRow w.heap.size 3 1 v1 (onePg bs).old.length ((onePg bs).old.map (Value.int .i64)) ∧ w'.ownsRow w.heap.size 3 1 v2 (onePg bs).ms.length ((onePg bs).ms.map (Value.int .i64))) := by
  obtain ⟨w1, hw1⟩ : ∃ w1, w.alloc (.cells #[.int .i64 0, .int .i64 0, .int .i64 0, .slice none 0 0, .slice none 0 0] 26) = w1 := ⟨_, rfl⟩
  have b1 : Below w.heap.size w w1 := by rw [← hw1]; exact (Below.refl _ w).alloc (Nat.le_refl _) _
  have x1 : w1.heap[w.heap.size]? = some (.cells #[.int .i64 0, .int .i64 0, .int .i64 0, .slice none 0 0, .slice none 0 0] 26 (0, 0)) := by rw [← hw1]; exact heap_alloc_new _ _
  have HW1 := hide hw1
  have hbig := hg.big
  by_cases hn : n < 24
  · have he : oneErr bs = 8 := by unfold oneErr; rw [hg.len, if_pos hn]
    rw [he]
    have q1 : (n : Int) < 24 := by omega
    have B1 := hide b1
    have X1 := hide x1
    have z0 : w1.cell? ⟨w.heap.size, 0, none⟩ = some (.int .i64 0) := (cell_of_block x1).trans rfl
    have z1 : w1.cell? ⟨w.heap.size, 1, none⟩ = some (.int .i64 0) := (cell_of_block x1).trans rfl
    have z2 : w1.cell? ⟨w.heap.size, 2, none⟩ = some (.int .i64 0) := (cell_of_block x1).trans rfl
    have z3 : w1.cell? ⟨w.heap.size, 3, none⟩ = some (.slice none 0 0) := (cell_of_block x1).trans rfl
    have z4 : w1.cell? ⟨w.heap.size, 4, none⟩ = some (.slice none 0 0) := (cell_of_block x1).trans rfl
    have fz : ∀ i, w1.frozen? ⟨w.heap.size, i, none⟩ = false := fun i => free_of_block x1
    clear hw1 b1 x1 he hg hS
    go_enter Tryz.func66, Tryz.ntmps66
    go_upto_region 2 with fail
    rw [unhide HW1]
    go_wp2
    obtain ⟨U, hU⟩ : ∃ U : World, U = (((((w1.setCell ⟨w.heap.size, 0, none⟩ (.int .i64 0)).setCell ⟨w.heap.size, 1, none⟩ (.int .i64 0)).setCell ⟨w.heap.size, 2, none⟩ (.int .i64 0)).setCell ⟨w.heap.size, 3, none⟩ (.slice none 0 0)).setCell ⟨w.heap.size, 4, none⟩ (.slice none 0 0)) := ⟨_, rfl⟩
    rw [← hU]
    obtain ⟨hh, bU, kU⟩ := five_end (unhide X1) (Nat.le_refl _) (unhide B1) U hU
    have e0 : U.cell? ⟨w.heap.size, 0, none⟩ = some (.int .i64 0) := (cell_of_block (w := U) hh).trans rfl
    have e1 : U.cell? ⟨w.heap.size, 1, none⟩ = some (.int .i64 0) := (cell_of_block (w := U) hh).trans rfl
    have e2 : U.cell? ⟨w.heap.size, 2, none⟩ = some (.int .i64 0) := (cell_of_block (w := U) hh).trans rfl
    have e3 : U.cell? ⟨w.heap.size, 3, none⟩ = some (.slice none 0 0) := (cell_of_block (w := U) hh).trans rfl
    have e4 : U.cell? ⟨w.heap.size, 4, none⟩ = some (.slice none 0 0) := (cell_of_block (w := U) hh).trans rfl
    refine bodyPost_ret (v := .tuple #[.agg #[.int .i64 0, .int .i64 0, .int .i64 0, .slice none 0 0, .slice none 0 0], .int .i64 0, .int .i64 8]) (by simp [results, Tryz.results66, go_sem, e0, e1, e2, e3, e4]) rfl ?_
    exact ⟨bU, fun _ => rfl, fun h => absurd h (by decide)⟩
  · obtain ⟨a, rfl, hc0⟩ := hg.are.2 0 (by rw [hg.len]; omega)
    have hlen := hg.len
    have hroom := hg.room
    have b0 := hg.are
    have hd : Given w1 (some (a.add 24)) (n - 24) (cap - 24) (bs.drop 24) := ⟨by rw [List.length_drop, hlen], by omega, (fun h => by cases h), by omega, ((b0.below b1).drop 24)⟩
    obtain ⟨k, hk⟩ : ∃ k, cfgSize (bs.drop 24) = k := ⟨_, rfl⟩
    have hkn : k ≤ n - 24 := by rw [← hk, ← hd.len]; exact cfgSize_le _
    have CS := configSize_any _ _ _ _ w1 hd
    rw [hk] at CS
    obtain ⟨cb, hcb⟩ : ∃ cb, oneCfg bs = cb := ⟨_, rfl⟩
    have hcb' : (bs.drop 24).take k = cb := by rw [← hcb, ← hk]; rfl
    have hcl : cb.length = k := by rw [← hcb', List.length_take, List.length_drop]; omega
    have hgc : Given w1 (some (a.add 24)) k (cap - 24) cb := ⟨hcl, by omega, (fun h => by cases h), by omega, by rw [← hcb']; exact hd.are.take k⟩
    have PC := Ww.parseConfig_any _ _ _ _ w1 hgc (hS.below b1)
    obtain ⟨R, hR⟩ : ∃ R, rconfig cb (0, 0) = R := ⟨_, rfl⟩
    obtain ⟨x, sx⟩ := R
    obtain ⟨F, hF⟩ : ∃ F, rend k sx = F := ⟨_, rfl⟩
    obtain ⟨fp, fe⟩ := F
    rw [hR] at PC
    simp only [hF] at PC
    have he : oneErr bs = fe := by
      unfold oneErr
      rw [hlen, if_neg hn, hk, hcb, hR]
      simp only
      rw [hF]
    have hone : onePg bs = ⟨int8 bs 0, int8 bs 1, int8 bs 2, x.1, x.2⟩ := by unfold onePg; rw [hcb, hR]
    have hsz : oneSize bs = 24 + k := by unfold oneSize; rw [hk]
    rw [he, hone, hsz]
    have IA : ∀ W : World, Below w.heap.size w W → ∀ j, j < 3 → ∀ ji : Int, ((j : Nat) : Int) = ji → Calls Tryz.prog 74 #[.slice (some a) n cap, .int .i64 ji] W fun e w' => e = .returned (.int .i64 (int8 bs j)) ∧ w' = W := fun W hW j hj ji e => by rw [← e]; exact intAt_any a n cap bs W (hg.below hW) j (by omega)
    obtain ⟨i0, h0⟩ : ∃ i, int8 bs 0 = i := ⟨_, rfl⟩
    obtain ⟨i1, h1⟩ : ∃ i, int8 bs 1 = i := ⟨_, rfl⟩
    obtain ⟨i2, h2⟩ : ∃ i, int8 bs 2 = i := ⟨_, rfl⟩
    have IA0 := hide fun W hW => IA W hW 0 (by decide) 0 rfl
    have IA1 := hide fun W hW => IA W hW 1 (by decide) 1 rfl
    have IA2 := hide fun W hW => IA W hW 2 (by decide) 2 rfl
    rw [h0] at IA0 ⊢
    rw [h1] at IA1 ⊢
    rw [h2] at IA2 ⊢
    have B1 := hide b1
    have X1 := hide x1
    have CS' := hide CS
    have PC' := hide PC
    have q1 : ¬ (n : Int) < 24 := by omega
    have q2 : (24 : Int) ≤ (n : Int) := by omega
    have q3 : (24 : Int) + (k : Int) ≤ (n : Int) := by omega
    have q4 : (n : Int) ≤ (cap : Int) := by omega
    have q7 : ¬ (cap = 24) := hcap.resolve_left hn
    have q5 : (24 : Int) ≤ (24 : Int) + (k : Int) := by omega
    have q6 : (24 : Int) + (k : Int) ≤ (cap : Int) := by omega
    clear hcap hw1 b1 x1 hg hS hd hc0 b0 hk CS PC hcb hcb' hcl hgc hR hF he hone hsz IA h0 h1 h2 hlen
    go_enter Tryz.func66, Tryz.ntmps66
    go_upto_region 3 with fail
    rw [unhide HW1]
    go_wp2_with fail
    refine (unhide CS').mono ?_
    rintro e w2 ⟨rfl, rfl⟩
    clear CS'
    go_wp2_with fail
    refine (unhide PC').mono ?_
    rintro e w3 ⟨cs, rfl, b3, f0, f1⟩
    clear PC'
    have X3 := hide (Below.stay b3 (unhide X1))
    have B3 := hide (below_far (unhide B1) b3)
    by_cases hz : fe = 0
    · subst hz
      obtain ⟨v, v', rfl, o1, o2⟩ := f0 rfl
      obtain ⟨a1, p1, rfl⟩ := row_slice o1
      obtain ⟨a2, p2, rfl⟩ := row_slice o2
      obtain ⟨l1, h1'⟩ : ∃ l, x.1.length = l := ⟨_, rfl⟩
      obtain ⟨l2, h2'⟩ : ∃ l, x.2.length = l := ⟨_, rfl⟩
      rw [h1'] at o1
      rw [h2'] at o2
      simp only [h1', h2']
      obtain ⟨W, hW⟩ : ∃ W, w3.alloc (.cells #[.slice a1 l1 p1, .slice a2 l2 p2] 24) = W := ⟨_, rfl⟩
      have b4 : Below w3.heap.size w3 W := by rw [← hW]; exact (Below.refl _ _).alloc (Nat.le_refl _) _
      have x4 : W.heap[w3.heap.size]? = some (.cells #[.slice a1 l1 p1, .slice a2 l2 p2] 24 (0, 0)) := by rw [← hW]; exact box_at _ _
      have bW := below_far (unhide B3) b4
      have xW : W.drew.heap[w.heap.size]? = _ := Below.stay b4 (unhide X3)
      have c0 : W.drew.cell? ⟨w3.heap.size, 0, none⟩ = some (.slice a1 l1 p1) := (cell_of_block (w := W.drew) x4).trans rfl
      have c1 : W.drew.cell? ⟨w3.heap.size, 1, none⟩ = some (.slice a2 l2 p2) := (cell_of_block (w := W.drew) x4).trans rfl
      have z0 : W.drew.cell? ⟨w.heap.size, 0, none⟩ = some (.int .i64 0) := (cell_of_block xW).trans rfl
      have z1 : W.drew.cell? ⟨w.heap.size, 1, none⟩ = some (.int .i64 0) := (cell_of_block xW).trans rfl
      have z2 : W.drew.cell? ⟨w.heap.size, 2, none⟩ = some (.int .i64 0) := (cell_of_block xW).trans rfl
      have z3 : W.drew.cell? ⟨w.heap.size, 3, none⟩ = some (.slice none 0 0) := (cell_of_block xW).trans rfl
      have z4 : W.drew.cell? ⟨w.heap.size, 4, none⟩ = some (.slice none 0 0) := (cell_of_block xW).trans rfl
      have fz : ∀ i, W.drew.frozen? ⟨w.heap.size, i, none⟩ = false := fun i => free_of_block xW
      have O1 : Hid (Ir w.heap.size W (.slice a1 l1 p1) x.1) := hide (show W.ownsRow w.heap.size 3 1 (.slice a1 l1 p1) x.1.length (Ww.i64s x.1) from by rw [h1']; exact Ww.own_wide (Ww.own_below o1 b4) (unhide B1).size)
      have O2 : Hid (Ir w.heap.size W (.slice a2 l2 p2) x.2) := hide (show W.ownsRow w.heap.size 3 1 (.slice a2 l2 p2) x.2.length (Ww.i64s x.2) from by rw [h2']; exact Ww.own_wide (Ww.own_below o2 b4) (unhide B1).size)
      have HL1 := hide h1'
      have HL2 := hide h2'
      have J0 := hide (unhide IA0 W.drew bW.drew)
      have J1 := hide (unhide IA1 W.drew bW.drew)
      have J2 := hide (unhide IA2 W.drew bW.drew)
      have x4w : W.heap[w.heap.size]? = some (.cells #[.int .i64 0, .int .i64 0, .int .i64 0, .slice none 0 0, .slice none 0 0] 26 (0, 0)) := xW
      have y1 := setCell_block (i := 0) (u := .int .i64 i0) x4w
      have s1 : (W.setCell ⟨w.heap.size, 0, none⟩ (.int .i64 i0)).drew.cell? ⟨w.heap.size, 1, none⟩ = some (.int .i64 0) := (cell_of_block (w := (W.setCell ⟨w.heap.size, 0, none⟩ (.int .i64 i0)).drew) y1).trans rfl
      have r1 : (W.setCell ⟨w.heap.size, 0, none⟩ (.int .i64 i0)).drew.frozen? ⟨w.heap.size, 1, none⟩ = false := free_of_block (w := (W.setCell ⟨w.heap.size, 0, none⟩ (.int .i64 i0)).drew) y1
      have y2 := setCell_block (i := 1) (u := .int .i64 i1) y1
      have s2 : ((W.setCell ⟨w.heap.size, 0, none⟩ (.int .i64 i0)).setCell ⟨w.heap.size, 1, none⟩ (.int .i64 i1)).drew.cell? ⟨w.heap.size, 2, none⟩ = some (.int .i64 0) := (cell_of_block (w := ((W.setCell ⟨w.heap.size, 0, none⟩ (.int .i64 i0)).setCell ⟨w.heap.size, 1, none⟩ (.int .i64 i1)).drew) y2).trans rfl
      have r2 : ((W.setCell ⟨w.heap.size, 0, none⟩ (.int .i64 i0)).setCell ⟨w.heap.size, 1, none⟩ (.int .i64 i1)).drew.frozen? ⟨w.heap.size, 2, none⟩ = false := free_of_block (w := ((W.setCell ⟨w.heap.size, 0, none⟩ (.int .i64 i0)).setCell ⟨w.heap.size, 1, none⟩ (.int .i64 i1)).drew) y2
      have y3 := setCell_block (i := 2) (u := .int .i64 i2) y2
      have s3 : (((W.setCell ⟨w.heap.size, 0, none⟩ (.int .i64 i0)).setCell ⟨w.heap.size, 1, none⟩ (.int .i64 i1)).setCell ⟨w.heap.size, 2, none⟩ (.int .i64 i2)).drew.cell? ⟨w.heap.size, 3, none⟩ = some (.slice none 0 0) := (cell_of_block (w := (((W.setCell ⟨w.heap.size, 0, none⟩ (.int .i64 i0)).setCell ⟨w.heap.size, 1, none⟩ (.int .i64 i1)).setCell ⟨w.heap.size, 2, none⟩ (.int .i64 i2)).drew) y3).trans rfl
      have r3 : (((W.setCell ⟨w.heap.size, 0, none⟩ (.int .i64 i0)).setCell ⟨w.heap.size, 1, none⟩ (.int .i64 i1)).setCell ⟨w.heap.size, 2, none⟩ (.int .i64 i2)).drew.frozen? ⟨w.heap.size, 3, none⟩ = false := free_of_block (w := (((W.setCell ⟨w.heap.size, 0, none⟩ (.int .i64 i0)).setCell ⟨w.heap.size, 1, none⟩ (.int .i64 i1)).setCell ⟨w.heap.size, 2, none⟩ (.int .i64 i2)).drew) y3
      have y4 := setCell_block (i := 3) (u := .slice a1 l1 p1) y3
      have s4 : ((((W.setCell ⟨w.heap.size, 0, none⟩ (.int .i64 i0)).setCell ⟨w.heap.size, 1, none⟩ (.int .i64 i1)).setCell ⟨w.heap.size, 2, none⟩ (.int .i64 i2)).setCell ⟨w.heap.size, 3, none⟩ (.slice a1 l1 p1)).drew.cell? ⟨w.heap.size, 4, none⟩ = some (.slice none 0 0) := (cell_of_block (w := ((((W.setCell ⟨w.heap.size, 0, none⟩ (.int .i64 i0)).setCell ⟨w.heap.size, 1, none⟩ (.int .i64 i1)).setCell ⟨w.heap.size, 2, none⟩ (.int .i64 i2)).setCell ⟨w.heap.size, 3, none⟩ (.slice a1 l1 p1)).drew) y4).trans rfl
      have r4 : ((((W.setCell ⟨w.heap.size, 0, none⟩ (.int .i64 i0)).setCell ⟨w.heap.size, 1, none⟩ (.int .i64 i1)).setCell ⟨w.heap.size, 2, none⟩ (.int .i64 i2)).setCell ⟨w.heap.size, 3, none⟩ (.slice a1 l1 p1)).drew.frozen? ⟨w.heap.size, 4, none⟩ = false := free_of_block (w := ((((W.setCell ⟨w.heap.size, 0, none⟩ (.int .i64 i0)).setCell ⟨w.heap.size, 1, none⟩ (.int .i64 i1)).setCell ⟨w.heap.size, 2, none⟩ (.int .i64 i2)).setCell ⟨w.heap.size, 3, none⟩ (.slice a1 l1 p1)).drew) y4
      clear x4w y1 y2 y3 y4
      have HW := hide hW
      have BW := hide bW
      have XW := hide (show W.heap[w.heap.size]? = some (.cells #[.int .i64 0, .int .i64 0, .int .i64 0, .slice none 0 0, .slice none 0 0] 26 (0, 0)) from xW)
      have q8 : ¬ ((0 : Nat) : Int) ≠ 0 := by decide
      clear hW b4 x4 bW xW o1 o2 h1' h2' f0 f1 b3 IA0 IA1 IA2
      go_upto_region 7 with fail
      rw [unhide HW]
      go_region_law (first
        | (refine step_int (.tmp 27) 0 rfl rfl _ rfl i0 (unhide J0) ?_)
        | (refine step_int (.tmp 29) 1 rfl rfl _ rfl i1 (unhide J1) ?_)
        | (refine step_int (.tmp 31) 2 rfl rfl _ rfl i2 (unhide J2) ?_)
        | fail)
      all_goals go_wp2
      all_goals
        obtain ⟨U, hU⟩ : ∃ U : World, U = (((((W.setCell ⟨w.heap.size, 0, none⟩ (.int .i64 i0)).setCell ⟨w.heap.size, 1, none⟩ (.int .i64 i1)).setCell ⟨w.heap.size, 2, none⟩ (.int .i64 i2)).setCell ⟨w.heap.size, 3, none⟩ (.slice a1 l1 p1)).setCell ⟨w.heap.size, 4, none⟩ (.slice a2 l2 p2)) := ⟨_, rfl⟩
        rw [← hU]
        obtain ⟨hh, bU, kU⟩ := five_end (unhide XW) (Nat.le_refl _) (unhide BW) U hU
        have e0 : U.drew.cell? ⟨w.heap.size, 0, none⟩ = some (.int .i64 i0) := (cell_of_block (w := U.drew) hh).trans rfl
        have e1 : U.drew.cell? ⟨w.heap.size, 1, none⟩ = some (.int .i64 i1) := (cell_of_block (w := U.drew) hh).trans rfl
        have e2 : U.drew.cell? ⟨w.heap.size, 2, none⟩ = some (.int .i64 i2) := (cell_of_block (w := U.drew) hh).trans rfl
        have e3 : U.drew.cell? ⟨w.heap.size, 3, none⟩ = some (.slice a1 l1 p1) := (cell_of_block (w := U.drew) hh).trans rfl
        have e4 : U.drew.cell? ⟨w.heap.size, 4, none⟩ = some (.slice a2 l2 p2) := (cell_of_block (w := U.drew) hh).trans rfl
        refine bodyPost_ret (v := .tuple #[.agg #[.int .i64 i0, .int .i64 i1, .int .i64 i2, .slice a1 l1 p1, .slice a2 l2 p2], .int .i64 (24 + (k : Int)), .int .i64 0]) (by simp [results, Tryz.results66, go_sem, e0, e1, e2, e3, e4]) rfl ?_
        exact ⟨bU.drew, _, _, rfl, (show Ir w.heap.size U.drew (.slice a1 l1 p1) x.1 from ((unhide O1).other kU (unhide XW) (by decide)).below (drew_below U)), (show Ir w.heap.size U.drew (.slice a2 l2 p2) x.2 from ((unhide O2).other kU (unhide XW) (by decide)).below (drew_below U))⟩
    · obtain rfl := f1 hz
      obtain ⟨W, hW⟩ : ∃ W, w3.alloc (.cells #[.slice none 0 0, .slice none 0 0] 24) = W := ⟨_, rfl⟩
      have b4 : Below w3.heap.size w3 W := by rw [← hW]; exact (Below.refl _ _).alloc (Nat.le_refl _) _
      have bW := below_far (unhide B3) b4
      have xW := Below.stay b4 (unhide X3)
      have z0 : W.cell? ⟨w.heap.size, 0, none⟩ = some (.int .i64 0) := (cell_of_block xW).trans rfl
      have z1 : W.cell? ⟨w.heap.size, 1, none⟩ = some (.int .i64 0) := (cell_of_block xW).trans rfl
      have z2 : W.cell? ⟨w.heap.size, 2, none⟩ = some (.int .i64 0) := (cell_of_block xW).trans rfl
      have z3 : W.cell? ⟨w.heap.size, 3, none⟩ = some (.slice none 0 0) := (cell_of_block xW).trans rfl
      have z4 : W.cell? ⟨w.heap.size, 4, none⟩ = some (.slice none 0 0) := (cell_of_block xW).trans rfl
      have fz : ∀ i, W.frozen? ⟨w.heap.size, i, none⟩ = false := fun i => free_of_block xW
      have HW := hide hW
      have BW := hide bW
      have XW := hide xW
      have HZ := hide hz
      have q8 : ¬ (fe : Int) = 0 := by omega
      clear hW b4 bW xW hz f0 f1 b3 IA0 IA1 IA2
      go_upto_region 5 with fail
      rw [unhide HW]
      go_wp2
      obtain ⟨U, hU⟩ : ∃ U : World, U = (((((W.setCell ⟨w.heap.size, 0, none⟩ (.int .i64 0)).setCell ⟨w.heap.size, 1, none⟩ (.int .i64 0)).setCell ⟨w.heap.size, 2, none⟩ (.int .i64 0)).setCell ⟨w.heap.size, 3, none⟩ (.slice none 0 0)).setCell ⟨w.heap.size, 4, none⟩ (.slice none 0 0)) := ⟨_, rfl⟩
      rw [← hU]
      obtain ⟨hh, bU, kU⟩ := five_end (unhide XW) (Nat.le_refl _) (unhide BW) U hU
      have e0 : U.cell? ⟨w.heap.size, 0, none⟩ = some (.int .i64 0) := (cell_of_block (w := U) hh).trans rfl
      have e1 : U.cell? ⟨w.heap.size, 1, none⟩ = some (.int .i64 0) := (cell_of_block (w := U) hh).trans rfl
      have e2 : U.cell? ⟨w.heap.size, 2, none⟩ = some (.int .i64 0) := (cell_of_block (w := U) hh).trans rfl
      have e3 : U.cell? ⟨w.heap.size, 3, none⟩ = some (.slice none 0 0) := (cell_of_block (w := U) hh).trans rfl
      have e4 : U.cell? ⟨w.heap.size, 4, none⟩ = some (.slice none 0 0) := (cell_of_block (w := U) hh).trans rfl
      refine bodyPost_ret (v := .tuple #[.agg #[.int .i64 0, .int .i64 0, .int .i64 0, .slice none 0 0, .slice none 0 0], .int .i64 0, .int .i64 (fe : Int)]) (by simp [results, Tryz.results66, go_sem, e0, e1, e2, e3, e4]) rfl ?_
      exact ⟨bU, fun _ => rfl, fun h => absurd h (unhide HZ)⟩
end Go.Proofs.YtgllokinadjiaaaGreatDoor
namespace Go.Proofs.YtgllokinadjiaaaGreatDoor
open Go.RowKit Go.Maps
open Ww (Given rconfig rend)

theorem rconfig_nil : (rend 0 (rconfig [] (0, 0)).2).2 = 8 := by decide
set_option maxRecDepth 20000 in
set_option maxHeartbeats 600000 in
theorem parseOne_end (a : Addr) (bs : List Nat) (w : World) (hg : Given w (some a) 24 24 bs) (hS : Ww.Start w) :
    Calls Tryz.prog 66 #[.slice (some a) 24 24] w fun x w' => Below w.heap.size w w' ∧ oneErr bs = 8 ∧ x = .returned (.tuple #[.agg noGen, .int .i64 0, .int .i64 8]) := by
  obtain ⟨w1, hw1⟩ : ∃ w1, w.alloc (.cells #[.int .i64 0, .int .i64 0, .int .i64 0, .slice none 0 0, .slice none 0 0] 26) = w1 := ⟨_, rfl⟩
  have b1 : Below w.heap.size w w1 := by rw [← hw1]; exact (Below.refl _ w).alloc (Nat.le_refl _) _
  have x1 : w1.heap[w.heap.size]? = some (.cells #[.int .i64 0, .int .i64 0, .int .i64 0, .slice none 0 0, .slice none 0 0] 26 (0, 0)) := by rw [← hw1]; exact heap_alloc_new _ _
  have HW1 := hide hw1
  have hnil : bs.drop 24 = [] := List.drop_eq_nil_of_le (by rw [hg.len]; decide)
  have hcfg : cfgSize ([] : List Nat) = 0 := by decide
  have he : oneErr bs = 8 := by
    unfold oneErr oneCfg
    rw [hg.len, if_neg (by decide), hnil, hcfg]
    exact rconfig_nil
  have hd : Given w1 (some a) 0 0 [] := ⟨rfl, by decide, (fun h => by cases h), by decide, ⟨by simp, by simp⟩⟩
  have CS := hide (configSize_any _ _ _ _ w1 hd)
  rw [hcfg] at CS
  have PC := hide (Ww.parseConfig_any _ _ _ _ w1 hd (hS.below b1))
  rw [rconfig_nil] at PC
  have B1 := hide b1
  have X1 := hide x1
  have HE := hide he
  clear hw1 b1 x1 hg hS hnil hcfg he hd
  go_enter Tryz.func66, Tryz.ntmps66
  go_upto_region 3 with fail
  rw [unhide HW1]
  go_wp2_with fail
  refine (unhide CS).mono ?_
  rintro e w2 ⟨rfl, rfl⟩
  clear CS
  go_wp2_with fail
  refine (unhide PC).mono ?_
  rintro e w3 ⟨cs, rfl, b3, -, f1⟩
  obtain rfl := f1 (by decide)
  have X3 := hide (Below.stay b3 (unhide X1))
  have B3 := hide (below_far (unhide B1) b3)
  obtain ⟨W, hW⟩ : ∃ W, w3.alloc (.cells #[.slice none 0 0, .slice none 0 0] 24) = W := ⟨_, rfl⟩
  have b4 : Below w3.heap.size w3 W := by rw [← hW]; exact (Below.refl _ _).alloc (Nat.le_refl _) _
  have bW := below_far (unhide B3) b4
  have xW := Below.stay b4 (unhide X3)
  have z0 : W.cell? ⟨w.heap.size, 0, none⟩ = some (.int .i64 0) := (cell_of_block xW).trans rfl
  have z1 : W.cell? ⟨w.heap.size, 1, none⟩ = some (.int .i64 0) := (cell_of_block xW).trans rfl
  have z2 : W.cell? ⟨w.heap.size, 2, none⟩ = some (.int .i64 0) := (cell_of_block xW).trans rfl
  have z3 : W.cell? ⟨w.heap.size, 3, none⟩ = some (.slice none 0 0) := (cell_of_block xW).trans rfl
  have z4 : W.cell? ⟨w.heap.size, 4, none⟩ = some (.slice none 0 0) := (cell_of_block xW).trans rfl
  have fz : ∀ i, W.frozen? ⟨w.heap.size, i, none⟩ = false := fun i => free_of_block xW
  have HW := hide hW
  have BW := hide bW
  have XW := hide xW
  clear hW b4 bW xW f1 b3 PC
  go_upto_region 5 with fail
  rw [unhide HW]
  go_wp2
  obtain ⟨U, hU⟩ : ∃ U : World, U = (((((W.setCell ⟨w.heap.size, 0, none⟩ (.int .i64 0)).setCell ⟨w.heap.size, 1, none⟩ (.int .i64 0)).setCell ⟨w.heap.size, 2, none⟩ (.int .i64 0)).setCell ⟨w.heap.size, 3, none⟩ (.slice none 0 0)).setCell ⟨w.heap.size, 4, none⟩ (.slice none 0 0)) := ⟨_, rfl⟩
  rw [← hU]
  obtain ⟨hh, bU, kU⟩ := five_end (unhide XW) (Nat.le_refl _) (unhide BW) U hU
  have e0 : U.cell? ⟨w.heap.size, 0, none⟩ = some (.int .i64 0) := (cell_of_block (w := U) hh).trans rfl
  have e1 : U.cell? ⟨w.heap.size, 1, none⟩ = some (.int .i64 0) := (cell_of_block (w := U) hh).trans rfl
  have e2 : U.cell? ⟨w.heap.size, 2, none⟩ = some (.int .i64 0) := (cell_of_block (w := U) hh).trans rfl
  have e3 : U.cell? ⟨w.heap.size, 3, none⟩ = some (.slice none 0 0) := (cell_of_block (w := U) hh).trans rfl
  have e4 : U.cell? ⟨w.heap.size, 4, none⟩ = some (.slice none 0 0) := (cell_of_block (w := U) hh).trans rfl
  refine bodyPost_ret (v := .tuple #[.agg #[.int .i64 0, .int .i64 0, .int .i64 0, .slice none 0 0, .slice none 0 0], .int .i64 0, .int .i64 8]) (by simp [results, Tryz.results66, go_sem, e0, e1, e2, e3, e4]) rfl ?_
  exact ⟨bU, unhide HE, rfl⟩

theorem bytes_some {w : World} {ao : Option Addr} {n cap : Nat} {bs : List Nat} (h : Given w ao n cap bs) (hn : n ≠ 0) : ∃ a, ao = some a := by
  obtain ⟨a, e, _⟩ := h.are.2 0 (by rw [h.len]; omega)
  exact ⟨a, e⟩
/-- seal.parseOne, over any slice. -/
theorem parseOne_all (ao : Option Addr) (n cap : Nat) (bs : List Nat) (w : World) (hg : Given w ao n cap bs) (hS : Ww.Start w) :
    Calls Tryz.prog 66 #[.slice ao n cap] w fun x w' => Below w.heap.size w w' ∧
      (oneErr bs ≠ 0 → x = .returned (.tuple #[.agg noGen, .int .i64 0, .int .i64 ((oneErr bs : Nat) : Int)])) ∧
      (oneErr bs = 0 → ∃ v1 v2, x = .returned (.tuple #[.agg ((onePg bs).cells v1 v2), .int .i64 ((oneSize bs : Nat) : Int), .int .i64 0]) ∧
        w'.ownsRow w.heap.size 3 1 v1 (onePg bs).old.length ((onePg bs).old.map (Value.int .i64)) ∧ w'.ownsRow w.heap.size 3 1 v2 (onePg bs).ms.length ((onePg bs).ms.map (Value.int .i64))) := by
  by_cases hc : n = 24 ∧ cap = 24
  · obtain ⟨rfl, rfl⟩ := hc
    obtain ⟨a, rfl⟩ := bytes_some hg (by decide)
    refine (parseOne_end a bs w hg hS).mono ?_
    rintro x w' ⟨h1, h2, rfl⟩
    exact ⟨h1, fun _ => by rw [h2]; rfl, fun h => by rw [h2] at h; cases h⟩
  · refine parseOne_any ao n cap bs w hg hS ?_
    have := hg.room
    omega
end Go.Proofs.YtgllokinadjiaaaGreatDoor

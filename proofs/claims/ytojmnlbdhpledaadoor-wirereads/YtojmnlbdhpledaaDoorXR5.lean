/- The document's reader: ReadConfig, ParseConfig: contracts. wire.parse of an entry, of a configuration, of a message: contracts. The document's ParseEntry, ParseConfig: contracts. The document's ParseMsg: small plain lemmas. thirteen cells stored one by one. -/
import Derived.Test.YtojmnlbdhpledaaDoorXR4
import Derived.Test.YtojmnlbdhpledaaDoorReader
import Derived.Test.YtojmnlbdhpledaaDoorReaderQ
import Derived.Test.YtojmnlbdhpledaaDoorReadPure
namespace Go.Proofs.YtojmnlbdhpledaaDoor
open Go.RowKit

theorem rlist_er {bs : List Nat} {q : Nat} {s : Nat × Nat} (h : (rlist bs q s).2.2 = 0) : s.2 = 0 := by
  unfold rlist at h
  refine rrule_er (bs := bs) (q := q) ?_
  by_cases ht : (rrule bs q s).2.2 = 0
  · exact ht
  · have := rlistN_er bs (rrule bs q s).2 0 ht (rrule bs q s).1
    rw [Nat.zero_add] at this
    exact absurd (this.symm.trans h) ht

set_option maxRecDepth 20000 in
set_option maxHeartbeats 4000000 in
theorem xconfig_any {base : Nat} {a w : World} {p : Nat} {ao : Option Addr} {n cap : Nat} {bs : List Nat} {s : Nat × Nat} (h : Xg base a w p ao n cap bs s) :
    Calls Tryd.prog 53 #[.pointer (some ⟨p, 0, none⟩)] w fun r w' => ∃ (v1 v2 : Value) (xs ys : List Int), r = .returned (.agg #[v1, v2]) ∧ w'.ownsRow w.heap.size 3 1 v1 xs.length (i64s xs) ∧ w'.ownsRow w.heap.size 3 1 v2 ys.length (i64s ys) ∧ (xs.length ≤ 64 ∧ ys.length ≤ 64) ∧ ((rconfig bs s).2.2 = 0 → (xs, ys) = (rconfig bs s).1) ∧ Xg base a w' p ao n cap bs (rconfig bs s).2 ∧ Only base [92] w w' := by
  have E1 : Hid (rconfig bs s = (((rlist bs 5 s).1, (rlist bs 5 (rlist bs 5 s).2).1), (rlist bs 5 (rlist bs 5 s).2).2)) := by show _ = _; rfl
  have H := hide h
  obtain ⟨W0, hW0⟩ : ∃ W, w.alloc (.cells #[.slice none 0 0, .slice none 0 0] 39) = W := ⟨_, rfl⟩
  have b0 : Below w.heap.size w W0 := by rw [← hW0]; exact (Below.refl _ w).alloc (Nat.le_refl _) _
  have x0 : W0.heap[w.heap.size]? = some (.cells #[.slice none 0 0, .slice none 0 0] 39 (0, 0)) := by rw [← hW0]; exact heap_alloc_new _ _
  have G0 := hide (h.start.fresh b0)
  have RB := hide x0
  have HW0 := hide hW0
  have z0 : Hid (w.heap.size ≤ W0.heap.size) := hide b0.size
  clear h b0 x0 hW0
  go_enter Tryd.func53, Tryd.ntmps53
  go_wp2_with fail
  rw [unhide HW0]
  clear HW0
  refine ((unhide G0).list 5 9 (by decide) ref5).mono ?_
  rintro r w1 ⟨ao1, cap1, xs, rfl, o1, l1, y1, g1, k1⟩
  have RB1 := hide (k1.block (unhide RB) (by decide))
  have HER : Hid ((rlist bs 5 (rlist bs 5 s).2).2.2 = 0 → (rlist bs 5 s).2.2 = 0) := hide (fun h => rlist_er (s := (rlist bs 5 s).2) h)
  generalize rlist bs 5 s = m at *
  obtain ⟨m, sa⟩ := m
  simp only at y1 g1
  obtain ⟨nm, hnm⟩ : ∃ nm, xs.length = nm := ⟨_, rfl⟩
  rw [hnm] at o1 l1
  rw [hnm]
  obtain ⟨E, hE⟩ : ∃ E, w1.heap.size = E := ⟨_, rfl⟩
  obtain ⟨W1, hW1⟩ : ∃ W, w1.alloc (.cells #[.slice ao1 nm cap1, .slice none 0 0] 39) = W := ⟨_, rfl⟩
  have sE : w.heap.size ≤ E := by rw [← hE]; exact g1.on.size
  have bW1 : Below w1.heap.size w1 W1 := by rw [← hW1]; exact (Below.refl _ w1).alloc (Nat.le_refl _) _
  have NE : Hid (w.heap.size ≠ E) := hide (fun hx => by have := heap_lt (unhide RB1); omega)
  have EB := hide (show W1.heap[E]? = some (.cells #[.slice ao1 nm cap1, .slice none 0 0] 39 (0, 0)) by rw [← hW1, ← hE]; exact heap_alloc_new _ _)
  have RB2 := hide ((bW1.block _ (heap_lt (unhide RB1))).trans (unhide RB1))
  have G1 := hide (g1.fresh (bW1.mono g1.on.size))
  have O1 := hide (own_only o1 (Only.of_below (ts := []) bW1 (Nat.le_refl _)) (by simp))
  have Y1 := hide y1
  have L1 := hide l1
  have HNM := hide hnm
  have HW1 := hide hW1
  have HE := hide hE
  clear g1 k1 hW1 hE bW1 o1 y1 l1 hnm RB RB1 G0
  go_upto_region 2 with fail
  rw [unhide HW1, unhide HE]
  clear HW1 HE
  go_wp2_with fail
  refine ((unhide G1).list 5 9 (by decide) ref5).mono ?_
  rintro r w2 ⟨ao2, cap2, ys, rfl, o2, l2, y2, g2, k2⟩
  have RBk := k2.block (unhide RB2) (by decide)
  have EBk := k2.block (unhide EB) (by decide)
  have ok1 := own_only (unhide O1) k2 (by decide)
  have z1 : Hid (w.heap.size ≤ W1.heap.size) := hide (unhide G1).on.size
  generalize rlist bs 5 (m, sa).2 = m2 at *
  obtain ⟨m2, sb⟩ := m2
  simp only at y2 g2 HER
  obtain ⟨nk, hnk⟩ : ∃ nk, ys.length = nk := ⟨_, rfl⟩
  rw [hnk] at o2 l2
  rw [hnk]
  obtain ⟨W2, hW2⟩ : ∃ W, w2.setCell ⟨E, 1, none⟩ (.slice ao2 nk cap2) = W := ⟨_, rfl⟩
  obtain ⟨bWk, xWk, yWk⟩ := two_set (i := 1) (v := .slice ao2 nk cap2) sE EBk
  rw [hW2] at bWk xWk yWk
  have oWk : Only w.heap.size [39] w2 W2 := by rw [← hW2]; exact (Only.refl _ _ _).setCell (p := ⟨E, 1, none⟩) sE _ EBk (by simp)
  have e2 : w2.cell? ⟨E, 1, none⟩ = some (.slice none 0 0) := (cell_of_block EBk).trans rfl
  have f2 : w2.frozen? ⟨E, 1, none⟩ = false := free_of_block EBk
  have EB2 := hide (show W2.heap[E]? = some (.cells #[.slice ao1 nm cap1, .slice ao2 nk cap2] 39 (0, 0)) from xWk)
  have RB3 := hide ((yWk _ (unhide NE)).trans RBk)
  have G2 := hide (g2.fresh bWk)
  have O2 := hide (own_only o2 oWk (by decide))
  have O3 := hide (own_only ok1 oWk (by decide))
  have Y2 := hide y2
  have L2 := hide l2
  have HNK := hide hnk
  have HWk := hide hW2
  clear g2 k2 RBk EBk bWk xWk yWk oWk hW2 o2 ok1 y2 l2 hnk G1 RB2 EB O1
  go_upto_region 3 with fail
  rw [unhide HWk]
  clear HWk e2 f2
  have a0 : W2.cell? ⟨E, 0, none⟩ = some (.slice ao1 nm cap1) := (cell_of_block (unhide EB2)).trans rfl
  have a1 : W2.cell? ⟨E, 1, none⟩ = some (.slice ao2 nk cap2) := (cell_of_block (unhide EB2)).trans rfl
  have c0 : W2.cell? ⟨w.heap.size, 0, none⟩ = some (.slice none 0 0) := (cell_of_block (unhide RB3)).trans rfl
  have c1 : W2.cell? ⟨w.heap.size, 1, none⟩ = some (.slice none 0 0) := (cell_of_block (unhide RB3)).trans rfl
  have fz : ∀ i, W2.frozen? ⟨w.heap.size, i, none⟩ = false := fun i => free_of_block (unhide RB3)
  go_wp2
  obtain ⟨w8, h8⟩ : ∃ w8 : World, w8 = (W2.setCell ⟨w.heap.size, 0, none⟩ (.slice ao1 nm cap1)).setCell ⟨w.heap.size, 1, none⟩ (.slice ao2 nk cap2) := ⟨_, rfl⟩
  rw [← h8]
  have q8 : Only w.heap.size [39] W2 w8 ∧ w8.heap[w.heap.size]? = some (.cells #[.slice ao1 nm cap1, .slice ao2 nk cap2] 39 (0, 0)) := by
    rw [h8]
    exact set_one (set_one ⟨Only.refl _ _ _, unhide RB3⟩ (Nat.le_refl _) (by simp) 0 _) (Nat.le_refl _) (by simp) 1 _
  have d0 : w8.cell? ⟨w.heap.size, 0, none⟩ = some (.slice ao1 nm cap1) := (cell_of_block q8.2).trans rfl
  have d1 : w8.cell? ⟨w.heap.size, 1, none⟩ = some (.slice ao2 nk cap2) := (cell_of_block q8.2).trans rfl
  have g8 := (unhide G2).fresh q8.1.below
  refine bodyPost_ret (v := .agg #[.slice ao1 nm cap1, .slice ao2 nk cap2]) (by simp [results, Tryd.results53, go_sem, d0, d1]) rfl ?_
  rw [unhide E1]
  refine ⟨.slice ao1 nm cap1, .slice ao2 nk cap2, xs, ys, rfl, ?_, ?_, ⟨by rw [unhide HNM]; exact unhide L1, by rw [unhide HNK]; exact unhide L2⟩, ?_, (unhide H).back g8, g8.on⟩
  · simp only [unhide HNM]
    exact own_wide (own_only (unhide O3) q8.1 (by decide)) (unhide z0)
  · simp only [unhide HNK]
    exact own_wide (own_only (unhide O2) q8.1 (by decide)) (unhide z1)
  · intro h0
    rw [unhide Y1 (unhide HER h0), unhide Y2 h0]
end Go.Proofs.YtojmnlbdhpledaaDoor
namespace Go.Proofs.YtojmnlbdhpledaaDoor
open Go.RowKit
/-- these cells are that configuration. -/
def ConfIs (base : Nat) (w : World) (cs : Array Value) (x : List Int × List Int) : Prop := ∃ v1 v2, cs = #[v1, v2] ∧ w.ownsRow base 3 1 v1 x.1.length (i64s x.1) ∧ w.ownsRow base 3 1 v2 x.2.length (i64s x.2)

set_option maxRecDepth 20000 in
set_option maxHeartbeats 4000000 in
theorem parseConfig (ao : Option Addr) (n cap : Nat) (bs : List Nat) (w : World) (hg : Given w ao n cap bs) (hS : Start w) :
    Calls Tryd.prog 55 #[.slice ao n cap, .func (.func 56) #[] #[]] w fun e w' => ∃ cs, e = .returned (.tuple #[.agg cs, .int .i64 (((rend n (rconfig bs (0, 0)).2).2 : Nat) : Int)]) ∧ Below w.heap.size w w' ∧
      ((rend n (rconfig bs (0, 0)).2).2 = 0 → ConfIs w.heap.size w' cs (rconfig bs (0, 0)).1) ∧
      ((rend n (rconfig bs (0, 0)).2).2 ≠ 0 → cs = #[.slice none 0 0, .slice none 0 0]) := by
  obtain ⟨w1, hw1⟩ : ∃ w1, (w.alloc (.cells #[.slice none 0 0, .slice none 0 0] 39)).alloc (.cells #[.slice ao n cap, .int .i64 0, .nilIface] 113) = w1 := ⟨_, rfl⟩
  have b1 : Below w.heap.size w w1 := by rw [← hw1]; exact ((Below.refl _ w).alloc (Nat.le_refl _) _).alloc (by simp) _
  have hp1 : w1.heap[w.heap.size + 1]? = some (.cells #[.slice ao n cap, .int .i64 0, .nilIface] 113 (0, 0)) := by
    rw [← hw1]
    have h := heap_alloc_new (w.alloc (.cells #[.slice none 0 0, .slice none 0 0] 39)) (.cells #[.slice ao n cap, .int .i64 0, .nilIface] 113)
    simpa using h
  have hq1 : w1.heap[w.heap.size]? = some (.cells #[.slice none 0 0, .slice none 0 0] 39 (0, 0)) := by
    rw [← hw1]
    exact (Below.heap_alloc _ _ _ (by simp)).trans (heap_alloc_new _ _)
  have z1 : w.heap.size + 2 ≤ w1.heap.size := by rw [← hw1]; simp
  have R1 : Hid (Rg w.heap.size w1 w1 (w.heap.size + 1) ao n cap bs (0, 0)) := Rg.start (s := (0, 0)) ⟨_, hp1, by omega, Or.inl ⟨rfl, rfl⟩, Nat.zero_le _⟩ (hg.src b1) b1.size
  have S1 := hide (hS.below b1)
  have ZG := hide hS.2.2
  have B1 := hide b1
  have HQ1 := hide hq1
  have HW1 := hide hw1
  clear b1 hp1 hq1 hw1 hS hg
  have C2 := hide (rg_config (unhide R1))
  obtain ⟨X, hX⟩ : ∃ X, rconfig bs (0, 0) = X := ⟨_, rfl⟩
  rw [hX] at C2 ⊢
  clear hX
  obtain ⟨⟨x0, x1⟩, sx⟩ := X
  obtain ⟨F, hF⟩ : ∃ F, rend n sx = F := ⟨_, rfl⟩
  simp only [hF]
  have HF := hide hF
  clear hF
  obtain ⟨fp, fe⟩ := F
  simp only at C2 ⊢
  go_enter Tryd.func55, Tryd.ntmps55
  go_wp2_with fail
  rw [unhide HW1]
  clear HW1
  refine (unhide C2).mono ?_
  rintro e w2 ⟨ao1, cap1, ao2, cap2, rfl, o1, o2, r2, k2⟩
  obtain ⟨n0, hn0⟩ : ∃ n0, x0.length = n0 := ⟨_, rfl⟩
  obtain ⟨n1, hn1⟩ : ∃ n1, x1.length = n1 := ⟨_, rfl⟩
  simp only [hn0, hn1] at o1 o2 ⊢
  have HN0 := hide hn0
  have HN1 := hide hn1
  have O1 := hide o1
  have O2 := hide o2
  have B2 := hide ((unhide B1).trans k2.below)
  have HQ2 := hide (k2.block (unhide HQ1) (by decide))
  have R2 := hide (r2.alloc (.cells #[.slice ao1 n0 cap1, .slice ao2 n1 cap2] 39))
  have z2 : w.heap.size + 2 ≤ w2.heap.size := Nat.le_trans z1 k2.size
  clear r2 k2 R1 HQ1 B1 C2 o1 o2 hn0 hn1
  have E3 := hide (rg_end (unhide R2))
  rw [unhide HF] at E3
  go_wp2_with fail
  refine (unhide E3).mono ?_
  rintro e w4 ⟨rfl, r4, k4⟩
  have b24 : Below w.heap.size w2 w4 := ((Below.refl _ w2).alloc (by omega) _).trans k4.below
  have B4 := hide ((unhide B2).trans b24)
  have ht4 := k4.block (heap_alloc_new w2 (.cells #[.slice ao1 n0 cap1, .slice ao2 n1 cap2] 39)) (by decide)
  have hq4 := k4.block (((Below.heap_alloc w2 (.cells #[.slice ao1 n0 cap1, .slice ao2 n1 cap2] 39) _ (by omega))).trans (unhide HQ2)) (by decide)
  have G4 := hide ((unhide S1).2.1.below ((unhide R2).2.2.2.trans k4).below (by have := unhide ZG; omega))
  have z4 : w2.heap.size + 1 ≤ w4.heap.size := by have := k4.size; simp at this; exact this
  have FINo1 := hide (own_only (own_below (unhide O1) ((Below.refl _ w2).alloc (Nat.le_refl _) _)) k4 (by decide))
  have FINo2 := hide (own_only (own_below (unhide O2) ((Below.refl _ w2).alloc (Nat.le_refl _) _)) k4 (by decide))
  obtain ⟨ev, hp4, _, herr, _⟩ := r4.1
  have e2 : w4.cell? ⟨w.heap.size + 1, 2, none⟩ = some ev := (cell_of_block hp4).trans rfl
  have a0 : w4.cell? ⟨w2.heap.size, 0, none⟩ = some (.slice ao1 n0 cap1) := (cell_of_block ht4).trans rfl
  have a1 : w4.cell? ⟨w2.heap.size, 1, none⟩ = some (.slice ao2 n1 cap2) := (cell_of_block ht4).trans rfl
  have c0 : w4.cell? ⟨w.heap.size, 0, none⟩ = some (.slice none 0 0) := (cell_of_block hq4).trans rfl
  have c1 : w4.cell? ⟨w.heap.size, 1, none⟩ = some (.slice none 0 0) := (cell_of_block hq4).trans rfl
  have f4 : ∀ i, w4.frozen? ⟨w.heap.size, i, none⟩ = false := fun i => free_of_block hq4
  have HQ4 := hide hq4
  simp only at herr
  clear k4 b24 ht4 hq4 hp4 r4 R2 E3 HQ2 B2
  by_cases hz : fe = 0
  · subst hz
    obtain rfl := herr.none
    clear herr
    go_wp2
    obtain ⟨y0, hx⟩ : ∃ x : World, x = w4.setCell ⟨w.heap.size, 0, none⟩ (.slice ao1 n0 cap1) := ⟨_, rfl⟩
    rw [← hx]
    have p0 : Only w.heap.size [39] w4 y0 ∧ y0.heap[w.heap.size]? = some (.cells #[.slice ao1 n0 cap1, .slice none 0 0] 39 (0, 0)) := by rw [hx]; exact set_one ⟨Only.refl _ _ _, unhide HQ4⟩ (Nat.le_refl _) (by simp) 0 _
    clear hx
    obtain ⟨y1, hx⟩ : ∃ x : World, x = y0.setCell ⟨w.heap.size, 1, none⟩ (.slice ao2 n1 cap2) := ⟨_, rfl⟩
    rw [← hx]
    have p1 : Only w.heap.size [39] w4 y1 ∧ y1.heap[w.heap.size]? = some (.cells #[.slice ao1 n0 cap1, .slice ao2 n1 cap2] 39 (0, 0)) := by rw [hx]; exact set_one p0 (Nat.le_refl _) (by simp) 1 _
    clear hx
    clear a0 c0 a1 c1 f4
    have c0 : y1.cell? ⟨w.heap.size, 0, none⟩ = some (.slice ao1 n0 cap1) := (cell_of_block p1.2).trans rfl
    have c1 : y1.cell? ⟨w.heap.size, 1, none⟩ = some (.slice ao2 n1 cap2) := (cell_of_block p1.2).trans rfl
    refine bodyPost_ret (v := .tuple #[.agg #[.slice ao1 n0 cap1, .slice ao2 n1 cap2], .int .i64 0]) (by simp [results, Tryd.results55, go_sem, c0, c1]) rfl ?_
    refine ⟨#[.slice ao1 n0 cap1, .slice ao2 n1 cap2], rfl, (unhide B4).trans p1.1.below, ?_⟩
    have FINo1 := hide (own_only (unhide FINo1) p1.1 (by decide))
    have FINo2 := hide (own_only (unhide FINo2) p1.1 (by decide))
    have FIN := (show ConfIs w.heap.size y1 #[.slice ao1 n0 cap1, .slice ao2 n1 cap2] (x0, x1) from ⟨_, _, rfl, by rw [unhide HN0]; exact own_wide (unhide FINo1) (by omega), by rw [unhide HN1]; exact own_wide (unhide FINo2) (by omega)⟩)
    first | exact ⟨fun _ => FIN, fun h => absurd rfl h⟩ | exact FIN | exact ⟨FIN, trivial⟩
  · have HZ := hide hz
    have HEN := hide herr.err
    rcases herr with ⟨h0, _⟩ | ⟨b, xb, _, rfl, hfb⟩
    · exact absurd h0 hz
    clear hz a0 a1
    have hn5 := heap_alloc_new w4 (.cells #[.slice none 0 0, .slice none 0 0] 39)
    have b45 : Below w4.heap.size w4 (w4.alloc (.cells #[.slice none 0 0, .slice none 0 0] 39)) := (Below.refl _ w4).alloc (Nat.le_refl _) _
    obtain ⟨w5, hw5⟩ : ∃ w5, w4.alloc (.cells #[.slice none 0 0, .slice none 0 0] 39) = w5 := ⟨_, rfl⟩
    have HW5 := hide hw5
    rw [hw5] at hn5 b45
    have z5 : w4.heap.size + 1 ≤ w5.heap.size := by rw [← hw5]; simp
    have hq5 := (b45.block w.heap.size (by omega)).trans (unhide HQ4)
    have hp5 : w5.cell? ⟨w.heap.size + 1, 2, none⟩ = some (.iface 124 (.pointer (some ⟨b, 0, none⟩))) := by rw [b45.cell (by simp only; omega)]; exact e2
    have G5 := hide ((unhide G4).below (b45.mono (Nat.le_refl _)) (by have := unhide ZG; omega))
    have HE5 : Hid (Err w5 (.iface 124 (.pointer (some ⟨b, 0, none⟩))) fe) := ErrB.err (Or.inr ⟨b, xb, unhide HZ, rfl, (b45.block b (heap_lt hfb)).trans hfb⟩)
    have B5 := hide ((unhide B4).trans (b45.mono (by omega)))
    have N5 := hide (number_any (.iface 124 (.pointer (some ⟨b, 0, none⟩))) fe w5.drew ((unhide G5).below (drew_below w5) (by have := unhide ZG; omega)) (ErrB.err (ErrB.only (Or.inr ⟨b, xb, unhide HZ, rfl, (b45.block b (heap_lt hfb)).trans hfb⟩) (Only.of_below (ts := []) (drew_below w5) (Nat.le_refl _)) (by simp))))
    clear hfb
    have HN5 := hide hn5
    have HQ5 := hide hq5
    have m5 : ∀ w6, Below w5.drew.heap.size w5.drew w6 → w6.heap[w4.heap.size]? = some (.cells #[.slice none 0 0, .slice none 0 0] 39 (0, 0)) ∧ w6.heap[w.heap.size]? = some (.cells #[.slice none 0 0, .slice none 0 0] 39 (0, 0)) := fun w6 hb => ⟨(hb.block _ (show w4.heap.size < w5.heap.size by omega)).trans (unhide HN5), (hb.block _ (show w.heap.size < w5.heap.size by omega)).trans (unhide HQ5)⟩
    have M5 := hide m5
    clear hw5 b45 m5 hn5 hq5 c0 c1 f4
    go_wp2_with fail
    rw [unhide HW5]
    clear e2
    have n0 : w5.drew.cell? ⟨w4.heap.size, 0, none⟩ = some (.slice none 0 0) := (cell_of_block (unhide HN5)).trans rfl
    have n1 : w5.drew.cell? ⟨w4.heap.size, 1, none⟩ = some (.slice none 0 0) := (cell_of_block (unhide HN5)).trans rfl
    have e5 : w5.drew.cell? ⟨w.heap.size + 1, 2, none⟩ = some (.iface 124 (.pointer (some ⟨b, 0, none⟩))) := hp5
    clear hp5
    go_region_with (go_at_call 57; refine (unhide N5).mono ?_; rintro e w6 ⟨rfl, b6⟩; have h6 := unhide M5 w6 b6; have q0 : w6.cell? ⟨w4.heap.size, 0, none⟩ = some (.slice none 0 0) := (cell_of_block h6.1).trans rfl; have q1 : w6.cell? ⟨w4.heap.size, 1, none⟩ = some (.slice none 0 0) := (cell_of_block h6.1).trans rfl; have c0 : w6.cell? ⟨w.heap.size, 0, none⟩ = some (.slice none 0 0) := (cell_of_block h6.2).trans rfl; have c1 : w6.cell? ⟨w.heap.size, 1, none⟩ = some (.slice none 0 0) := (cell_of_block h6.2).trans rfl; have f6 : ∀ i, w6.frozen? ⟨w.heap.size, i, none⟩ = false := fun i => free_of_block h6.2; have H6 := hide h6.2; have B6 := hide b6; clear h6 b6)
    all_goals go_wp2
    all_goals
      obtain ⟨y0, hx⟩ : ∃ x : World, x = w6.setCell ⟨w.heap.size, 0, none⟩ (.slice none 0 0) := ⟨_, rfl⟩
      rw [← hx]
      have p0 : Only w.heap.size [39] w6 y0 ∧ y0.heap[w.heap.size]? = some (.cells #[.slice none 0 0, .slice none 0 0] 39 (0, 0)) := by rw [hx]; exact set_one ⟨Only.refl _ _ _, unhide H6⟩ (Nat.le_refl _) (by simp) 0 _
      clear hx
      obtain ⟨y1, hx⟩ : ∃ x : World, x = y0.setCell ⟨w.heap.size, 1, none⟩ (.slice none 0 0) := ⟨_, rfl⟩
      rw [← hx]
      have p1 : Only w.heap.size [39] w6 y1 ∧ y1.heap[w.heap.size]? = some (.cells #[.slice none 0 0, .slice none 0 0] 39 (0, 0)) := by rw [hx]; exact set_one p0 (Nat.le_refl _) (by simp) 1 _
      clear hx
      clear q0 c0 n0 q1 c1 n1 f6
      have c0 : y1.cell? ⟨w.heap.size, 0, none⟩ = some (.slice none 0 0) := (cell_of_block p1.2).trans rfl
      have c1 : y1.cell? ⟨w.heap.size, 1, none⟩ = some (.slice none 0 0) := (cell_of_block p1.2).trans rfl
      refine bodyPost_ret (v := .tuple #[.agg #[.slice none 0 0, .slice none 0 0], .int .i64 (fe : Int)]) (by simp [results, Tryd.results55, go_sem, c0, c1]) rfl ?_
      exact ⟨#[.slice none 0 0, .slice none 0 0], rfl, (unhide B5).trans (((drew_below w5).mono (by omega)).trans (((unhide B6).mono (show w.heap.size ≤ w5.heap.size by omega)).trans p1.1.below)), fun h => absurd h (unhide HZ), fun _ => rfl⟩

set_option maxRecDepth 20000 in
set_option maxHeartbeats 4000000 in
/-- wire.ParseConfig. -/
theorem parseConfig_any (ao : Option Addr) (n cap : Nat) (bs : List Nat) (w : World) (hg : Given w ao n cap bs) (hS : Start w) :
    Calls Tryd.prog 27 #[.slice ao n cap] w fun e w' => ∃ cs, e = .returned (.tuple #[.agg cs, .int .i64 (((rend n (rconfig bs (0, 0)).2).2 : Nat) : Int)]) ∧ Below w.heap.size w w' ∧
      ((rend n (rconfig bs (0, 0)).2).2 = 0 → ConfIs w.heap.size w' cs (rconfig bs (0, 0)).1) ∧
      ((rend n (rconfig bs (0, 0)).2).2 ≠ 0 → cs = #[.slice none 0 0, .slice none 0 0]) := by
  obtain ⟨w1, hw1⟩ : ∃ w1, w.alloc (.cells #[.slice none 0 0, .slice none 0 0] 39) = w1 := ⟨_, rfl⟩
  have b1 : Below w.heap.size w w1 := by rw [← hw1]; exact (Below.refl _ w).alloc (Nat.le_refl _) _
  have hq1 : w1.heap[w.heap.size]? = some (.cells #[.slice none 0 0, .slice none 0 0] 39 (0, 0)) := by rw [← hw1]; exact heap_alloc_new _ _
  have z1 : w.heap.size + 1 ≤ w1.heap.size := by rw [← hw1]; simp
  have C1 := hide (parseConfig ao n cap bs w1 (hg.below b1) (hS.below b1))
  have B1 := hide b1
  have HQ1 := hide hq1
  have HW1 := hide hw1
  clear b1 hq1 hw1 hS hg
  obtain ⟨X, hX⟩ : ∃ X, rconfig bs (0, 0) = X := ⟨_, rfl⟩
  rw [hX] at C1 ⊢
  clear hX
  obtain ⟨x, sx⟩ := X
  obtain ⟨F, hF⟩ : ∃ F, rend n sx = F := ⟨_, rfl⟩
  simp only [hF] at C1 ⊢
  clear hF
  obtain ⟨fp, fe⟩ := F
  simp only at C1 ⊢
  go_enter Tryd.func27, Tryd.ntmps27
  go_wp2_with fail
  rw [unhide HW1]
  clear HW1
  refine (unhide C1).mono ?_
  rintro e w2 ⟨cs, rfl, b2, h0, h1⟩
  have hq2 := (b2.block w.heap.size (by omega)).trans (unhide HQ1)
  have c0 : w2.cell? ⟨w.heap.size, 0, none⟩ = some (.slice none 0 0) := (cell_of_block hq2).trans rfl
  have c1 : w2.cell? ⟨w.heap.size, 1, none⟩ = some (.slice none 0 0) := (cell_of_block hq2).trans rfl
  have f2 : ∀ i, w2.frozen? ⟨w.heap.size, i, none⟩ = false := fun i => free_of_block hq2
  have HQ2 := hide hq2
  have B2 := hide ((unhide B1).trans (b2.mono (by omega)))
  clear hq2 b2 C1 HQ1 B1
  by_cases hz : fe = 0
  · subst hz
    obtain ⟨v, v', rfl, o1, o2⟩ := h0 rfl
    obtain ⟨a1, p1, rfl⟩ := row_slice o1
    obtain ⟨a2, p2, rfl⟩ := row_slice o2
    obtain ⟨l1, h1'⟩ : ∃ l, x.1.length = l := ⟨_, rfl⟩
    obtain ⟨l2, h2'⟩ : ∃ l, x.2.length = l := ⟨_, rfl⟩
    simp only [h1', h2'] at o1 o2 ⊢
    have O1 := hide o1
    have O2 := hide o2
    have HL1 := hide h1'
    have HL2 := hide h2'
    clear o1 o2 h1' h2' h0 h1
    go_wp2
    clear c0 c1 f2
    obtain ⟨y0, hx⟩ : ∃ yy : World, yy = w2.setCell ⟨w.heap.size, 0, none⟩ (.slice a1 l1 p1) := ⟨_, rfl⟩
    rw [← hx]
    have P0 : Only w.heap.size [39] w2 y0 ∧ y0.heap[w.heap.size]? = some (.cells #[.slice a1 l1 p1, .slice none 0 0] 39 (0, 0)) := by rw [hx]; exact set_one ⟨Only.refl _ _ _, unhide HQ2⟩ (Nat.le_refl _) (by simp) 0 _
    clear hx
    obtain ⟨y1, hx⟩ : ∃ yy : World, yy = y0.setCell ⟨w.heap.size, 1, none⟩ (.slice a2 l2 p2) := ⟨_, rfl⟩
    rw [← hx]
    have P1 : Only w.heap.size [39] w2 y1 ∧ y1.heap[w.heap.size]? = some (.cells #[.slice a1 l1 p1, .slice a2 l2 p2] 39 (0, 0)) := by rw [hx]; exact set_one P0 (Nat.le_refl _) (by simp) 1 _
    clear hx
    have c0 : y1.cell? ⟨w.heap.size, 0, none⟩ = some (.slice a1 l1 p1) := (cell_of_block P1.2).trans rfl
    have c1 : y1.cell? ⟨w.heap.size, 1, none⟩ = some (.slice a2 l2 p2) := (cell_of_block P1.2).trans rfl
    refine bodyPost_ret (v := .tuple #[.agg #[.slice a1 l1 p1, .slice a2 l2 p2], .int .i64 0]) (by simp [results, Tryd.results27, go_sem, c0, c1]) rfl ?_
    have O1 := hide (own_only (unhide O1) P1.1 (by decide))
    have O2 := hide (own_only (unhide O2) P1.1 (by decide))
    have FIN : ConfIs w.heap.size y1 #[.slice a1 l1 p1, .slice a2 l2 p2] x := ⟨.slice a1 l1 p1, .slice a2 l2 p2, rfl, by rw [unhide HL1]; exact own_wide (unhide O1) (by omega), by rw [unhide HL2]; exact own_wide (unhide O2) (by omega)⟩
    refine ⟨#[.slice a1 l1 p1, .slice a2 l2 p2], rfl, (unhide B2).trans P1.1.below, ?_⟩
    first | exact ⟨fun _ => FIN, fun h => absurd rfl h⟩ | exact FIN | exact ⟨FIN, trivial⟩
  · obtain rfl := h1 hz
    have HZ := hide hz
    clear h0 h1 hz
    go_wp2
    clear c0 c1 f2
    obtain ⟨y0, hx⟩ : ∃ yy : World, yy = w2.setCell ⟨w.heap.size, 0, none⟩ (.slice none 0 0) := ⟨_, rfl⟩
    rw [← hx]
    have P0 : Only w.heap.size [39] w2 y0 ∧ y0.heap[w.heap.size]? = some (.cells #[.slice none 0 0, .slice none 0 0] 39 (0, 0)) := by rw [hx]; exact set_one ⟨Only.refl _ _ _, unhide HQ2⟩ (Nat.le_refl _) (by simp) 0 _
    clear hx
    obtain ⟨y1, hx⟩ : ∃ yy : World, yy = y0.setCell ⟨w.heap.size, 1, none⟩ (.slice none 0 0) := ⟨_, rfl⟩
    rw [← hx]
    have P1 : Only w.heap.size [39] w2 y1 ∧ y1.heap[w.heap.size]? = some (.cells #[.slice none 0 0, .slice none 0 0] 39 (0, 0)) := by rw [hx]; exact set_one P0 (Nat.le_refl _) (by simp) 1 _
    clear hx
    have c0 : y1.cell? ⟨w.heap.size, 0, none⟩ = some (.slice none 0 0) := (cell_of_block P1.2).trans rfl
    have c1 : y1.cell? ⟨w.heap.size, 1, none⟩ = some (.slice none 0 0) := (cell_of_block P1.2).trans rfl
    refine bodyPost_ret (v := .tuple #[.agg #[.slice none 0 0, .slice none 0 0], .int .i64 (fe : Int)]) (by simp [results, Tryd.results27, go_sem, c0, c1]) rfl ?_
    exact ⟨#[.slice none 0 0, .slice none 0 0], rfl, (unhide B2).trans P1.1.below, fun h => absurd h (unhide HZ), fun _ => rfl⟩
end Go.Proofs.YtojmnlbdhpledaaDoor
namespace Go.Proofs.YtojmnlbdhpledaaDoor
open Go.RowKit

theorem below_far2 {a b c : World} (h : Below a.heap.size a b) (k : Below b.heap.size b c) : Below a.heap.size a c := h.trans (k.mono h.size)
set_option maxRecDepth 20000 in
set_option maxHeartbeats 4000000 in
theorem xpParseEntry_any (ao : Option Addr) (n cap : Nat) (bs : List Nat) (w : World) (hg : Given w ao n cap bs) :
    Calls Tryd.prog 26 #[.slice ao n cap] w fun e w' => ∃ cs, e = .returned (.tuple #[.agg cs, .int .i64 (((rend n (rentry bs (0, 0)).2).2 : Nat) : Int)]) ∧ Below w.heap.size w w' ∧
      ((rend n (rentry bs (0, 0)).2).2 = 0 → EntIs w.heap.size w' cs (rentry bs (0, 0)).1) ∧
      ((rend n (rentry bs (0, 0)).2).2 ≠ 0 → cs = #[.int .i64 0, .int .i64 0, .int .i64 0, .string ⟨#[]⟩, .slice none 0 0, .int .i64 0]) := by
  obtain ⟨W0, hW0⟩ : ∃ W, w.alloc (.cells #[.int .i64 0, .int .i64 0, .int .i64 0, .string ⟨#[]⟩, .slice none 0 0, .int .i64 0] 24) = W := ⟨_, rfl⟩
  have b0 : Below w.heap.size w W0 := by rw [← hW0]; exact (Below.refl _ w).alloc (Nat.le_refl _) _
  have x0 : W0.heap[w.heap.size]? = some (.cells #[.int .i64 0, .int .i64 0, .int .i64 0, .string ⟨#[]⟩, .slice none 0 0, .int .i64 0] 24 (0, 0)) := by rw [← hW0]; exact heap_alloc_new _ _
  obtain ⟨p, hp⟩ : ∃ p, w.heap.size + 1 = p := ⟨_, rfl⟩
  have hp0 : W0.heap.size = p := by rw [← hW0, ← hp]; simp
  obtain ⟨W1, hW1⟩ : ∃ W, W0.alloc (.cells #[.slice ao n cap, .int .i64 0, .int .i64 0] 92) = W := ⟨_, rfl⟩
  have b1 : Below W0.heap.size W0 W1 := by rw [← hW1]; exact (Below.refl _ W0).alloc (Nat.le_refl _) _
  have x1 : W1.heap[p]? = some (.cells #[.slice ao n cap, .int .i64 0, .int .i64 0] 92 (0, 0)) := by rw [← hW1, ← hp0]; exact heap_alloc_new _ _
  have RB1 := hide ((b1.block _ (heap_lt x0)).trans x0)
  have bb : Below w.heap.size w W1 := b0.trans (b1.mono b0.size)
  have GX : Hid (Xg w.heap.size W1 W1 p ao n cap bs (0, 0)) := hide ⟨⟨0, x1, by rw [← hp0]; exact b0.size, (fun _ => rfl), Nat.zero_le _⟩, ⟨hg.len, hg.room, hg.nul, hg.big, fun _ ho => hg.are.below (bb.trans ho.below)⟩, bb.size, Only.refl _ _ _, heap_lt x1⟩
  have BB := hide bb
  have HW0 := hide hW0
  have HW1 := hide hW1
  have HPP := hide hp
  clear hW0 b0 x0 hp hp0 hW1 b1 x1 bb hg
  go_enter Tryd.func26, Tryd.ntmps26
  go_wp2_with fail
  rw [unhide HW0, unhide HW1, unhide HPP]
  clear HW0 HW1 HPP
  refine (xentry_any (unhide GX)).mono ?_
  rintro r w2 ⟨⟨kd, ct, sq, dt, ms, tt⟩, v, rfl, o2, l2, y2, g2, k2⟩
  obtain ⟨aov, capv, rfl⟩ := row_slice o2
  simp only at o2 l2
  obtain ⟨nm, hnm⟩ : ∃ nm, ms.length = nm := ⟨_, rfl⟩
  simp only [Ent.cells, hnm]
  rw [hnm] at o2
  have HNM := hide hnm
  have OO := hide o2
  clear o2 hnm l2
  obtain ⟨rr, hrr⟩ : ∃ rr, rentry bs (0, 0) = rr := ⟨_, rfl⟩
  rw [hrr] at y2 g2
  have HRR := hide hrr
  have RB2 := hide (k2.block (unhide RB1) (by decide))
  obtain ⟨E, hE⟩ : ∃ E, w2.heap.size = E := ⟨_, rfl⟩
  obtain ⟨W2, hW2⟩ : ∃ W, w2.alloc (.cells #[.int .i64 kd, .int .i64 ct, .int .i64 sq, .string (str dt), .slice aov nm capv, .int .i64 tt] 24) = W := ⟨_, rfl⟩
  have b2 : Below w2.heap.size w2 W2 := by rw [← hW2]; exact (Below.refl _ w2).alloc (Nat.le_refl _) _
  have EB := hide (show W2.heap[E]? = some (.cells #[.int .i64 kd, .int .i64 ct, .int .i64 sq, .string (str dt), .slice aov nm capv, .int .i64 tt] 24 (0, 0)) by rw [← hW2, ← hE]; exact heap_alloc_new _ _)
  have RB3 := hide ((b2.block _ (heap_lt (unhide RB2))).trans (unhide RB2))
  have G2 := hide (g2.fresh (b2.mono g2.on.size))
  have BO := hide b2
  have SZ : Hid (w.heap.size ≤ W1.heap.size) := hide (unhide BB).size
  have KB : Hid (Below w.heap.size w W2) := hide (((unhide BB).trans k2.below).trans (b2.mono (Nat.le_trans (unhide BB).size g2.on.size)))
  have Y2 := hide y2
  have HW2 := hide hW2
  have HE := hide hE
  clear y2 g2 k2 hrr hE hW2 b2 RB1 RB2 GX BB
  go_upto_region 3 with fail
  rw [unhide HW2, unhide HE]
  clear HW2 HE
  obtain ⟨er, her⟩ : ∃ er, (rend n rr.2).2 = er := ⟨_, rfl⟩
  have C1 := xend_any w.heap.size p ao n cap rr.2 W2 (unhide G2).q
  rw [her] at C1
  have CC1 := hide C1
  have HER := hide her
  clear C1 her
  go_wp2_with fail
  refine (unhide CC1).mono ?_
  rintro r w3 ⟨rfl, d3, hd3⟩
  have b3 : Below W2.heap.size W2 w3 := by rw [hd3]; exact drewN_below W2 d3
  clear hd3 CC1
  by_cases hr0 : er = 0
  · subst hr0
    have EB3 := hide ((b3.block _ (heap_lt (unhide EB))).trans (unhide EB))
    have RB4 := hide ((b3.block _ (heap_lt (unhide RB3))).trans (unhide RB3))
    have KB3 := hide ((unhide KB).trans (b3.mono (unhide KB).size))
    have BO3 := hide (below_far2 (unhide BO) b3)
    clear b3
    have hr0 : rr.2.2 = 0 := by
      have := unhide HER
      unfold rend at this
      split at this
      · simp only at this; split at this
        · cases this
        · assumption
      · exact this
    have a0 : w3.cell? ⟨E, 0, none⟩ = some (.int .i64 kd) := (cell_of_block (unhide EB3)).trans rfl
    have z0 : w3.cell? ⟨w.heap.size, 0, none⟩ = some (.int .i64 0) := (cell_of_block (unhide RB4)).trans rfl
    have a1 : w3.cell? ⟨E, 1, none⟩ = some (.int .i64 ct) := (cell_of_block (unhide EB3)).trans rfl
    have z1 : w3.cell? ⟨w.heap.size, 1, none⟩ = some (.int .i64 0) := (cell_of_block (unhide RB4)).trans rfl
    have a2 : w3.cell? ⟨E, 2, none⟩ = some (.int .i64 sq) := (cell_of_block (unhide EB3)).trans rfl
    have z2 : w3.cell? ⟨w.heap.size, 2, none⟩ = some (.int .i64 0) := (cell_of_block (unhide RB4)).trans rfl
    have a3 : w3.cell? ⟨E, 3, none⟩ = some (.string (str dt)) := (cell_of_block (unhide EB3)).trans rfl
    have z3 : w3.cell? ⟨w.heap.size, 3, none⟩ = some (.string ⟨#[]⟩) := (cell_of_block (unhide RB4)).trans rfl
    have a4 : w3.cell? ⟨E, 4, none⟩ = some (.slice aov nm capv) := (cell_of_block (unhide EB3)).trans rfl
    have z4 : w3.cell? ⟨w.heap.size, 4, none⟩ = some (.slice none 0 0) := (cell_of_block (unhide RB4)).trans rfl
    have a5 : w3.cell? ⟨E, 5, none⟩ = some (.int .i64 tt) := (cell_of_block (unhide EB3)).trans rfl
    have z5 : w3.cell? ⟨w.heap.size, 5, none⟩ = some (.int .i64 0) := (cell_of_block (unhide RB4)).trans rfl
    have fz : ∀ i, w3.frozen? ⟨w.heap.size, i, none⟩ = false := fun i => free_of_block (unhide RB4)
    have HR0 := hide hr0
    clear hr0
    go_wp2
    have hr0 := unhide HR0
    obtain ⟨w8, h8⟩ : ∃ w8 : World, w8 = ((((((w3.setCell ⟨w.heap.size, 0, none⟩ (.int .i64 kd)).setCell ⟨w.heap.size, 1, none⟩ (.int .i64 ct)).setCell ⟨w.heap.size, 2, none⟩ (.int .i64 sq)).setCell ⟨w.heap.size, 3, none⟩ (.string (str dt))).setCell ⟨w.heap.size, 4, none⟩ (.slice aov nm capv)).setCell ⟨w.heap.size, 5, none⟩ (.int .i64 tt)) := ⟨_, rfl⟩
    rw [← h8]
    have q8 : Only w.heap.size [24] w3 w8 ∧ w8.heap[w.heap.size]? = some (.cells #[.int .i64 kd, .int .i64 ct, .int .i64 sq, .string (str dt), .slice aov nm capv, .int .i64 tt] 24 (0, 0)) := by
      rw [h8]
      exact (set_one (set_one (set_one (set_one (set_one (set_one ⟨Only.refl _ _ _, unhide RB4⟩ (Nat.le_refl _) (by simp) 0 _) (Nat.le_refl _) (by simp) 1 _) (Nat.le_refl _) (by simp) 2 _) (Nat.le_refl _) (by simp) 3 _) (Nat.le_refl _) (by simp) 4 _) (Nat.le_refl _) (by simp) 5 _)
    have d0 : w8.cell? ⟨w.heap.size, 0, none⟩ = some (.int .i64 kd) := (cell_of_block q8.2).trans rfl
    have d1 : w8.cell? ⟨w.heap.size, 1, none⟩ = some (.int .i64 ct) := (cell_of_block q8.2).trans rfl
    have d2 : w8.cell? ⟨w.heap.size, 2, none⟩ = some (.int .i64 sq) := (cell_of_block q8.2).trans rfl
    have d3 : w8.cell? ⟨w.heap.size, 3, none⟩ = some (.string (str dt)) := (cell_of_block q8.2).trans rfl
    have d4 : w8.cell? ⟨w.heap.size, 4, none⟩ = some (.slice aov nm capv) := (cell_of_block q8.2).trans rfl
    have d5 : w8.cell? ⟨w.heap.size, 5, none⟩ = some (.int .i64 tt) := (cell_of_block q8.2).trans rfl
    refine bodyPost_ret (v := .tuple #[.agg #[.int .i64 kd, .int .i64 ct, .int .i64 sq, .string (str dt), .slice aov nm capv, .int .i64 tt], .int .i64 0]) (by simp [results, Tryd.results26, go_sem, d0, d1, d2, d3, d4, d5]) rfl ?_
    rw [unhide HRR]
    refine ⟨#[.int .i64 kd, .int .i64 ct, .int .i64 sq, .string (str dt), .slice aov nm capv, .int .i64 tt], ?_, (unhide KB3).trans q8.1.below, ?_, fun h => absurd (unhide HER) h⟩
    · rw [unhide HER]; rfl
    · refine fun _ => ⟨.slice aov nm capv, ?_, ?_⟩
      · rw [← unhide Y2 hr0]; simp only [Ent.cells]
      · rw [← unhide Y2 hr0]
        simp only [unhide HNM]
        exact own_wide (own_only (own_only (unhide OO) (Only.of_below (ts := []) (unhide BO3) (Nat.le_refl _)) (by simp)) q8.1 (by decide)) (unhide SZ)
  · have q1 : ((er : Int) != 0) = true := by simp; omega
    have C1 := xend_any w.heap.size p ao n cap rr.2 w3 ((unhide G2).q.below b3)
    rw [unhide HER] at C1
    have CC1 := hide C1
    have RB4 := hide ((b3.block _ (heap_lt (unhide RB3))).trans (unhide RB3))
    have KB3 := hide ((unhide KB).trans (b3.mono (unhide KB).size))
    have HR0 := hide hr0
    clear C1 hr0 b3
    go_wp2_with fail
    refine (unhide CC1).mono ?_
    rintro r w4 ⟨rfl, d4, hd4⟩
    have b4 : Below w3.heap.size w3 w4 := by rw [hd4]; exact drewN_below w3 d4
    have RB5 := hide ((b4.block _ (heap_lt (unhide RB4))).trans (unhide RB4))
    have KB4 := hide ((unhide KB3).trans (b4.mono (unhide KB3).size))
    clear hd4 b4 CC1
    have z0 : w4.cell? ⟨w.heap.size, 0, none⟩ = some (.int .i64 0) := (cell_of_block (unhide RB5)).trans rfl
    have z1 : w4.cell? ⟨w.heap.size, 1, none⟩ = some (.int .i64 0) := (cell_of_block (unhide RB5)).trans rfl
    have z2 : w4.cell? ⟨w.heap.size, 2, none⟩ = some (.int .i64 0) := (cell_of_block (unhide RB5)).trans rfl
    have z3 : w4.cell? ⟨w.heap.size, 3, none⟩ = some (.string ⟨#[]⟩) := (cell_of_block (unhide RB5)).trans rfl
    have z4 : w4.cell? ⟨w.heap.size, 4, none⟩ = some (.slice none 0 0) := (cell_of_block (unhide RB5)).trans rfl
    have z5 : w4.cell? ⟨w.heap.size, 5, none⟩ = some (.int .i64 0) := (cell_of_block (unhide RB5)).trans rfl
    have fz : ∀ i, w4.frozen? ⟨w.heap.size, i, none⟩ = false := fun i => free_of_block (unhide RB5)
    go_wp2
    obtain ⟨w8, h8⟩ : ∃ w8 : World, w8 = ((((((w4.setCell ⟨w.heap.size, 0, none⟩ (.int .i64 0)).setCell ⟨w.heap.size, 1, none⟩ (.int .i64 0)).setCell ⟨w.heap.size, 2, none⟩ (.int .i64 0)).setCell ⟨w.heap.size, 3, none⟩ (.string ⟨#[]⟩)).setCell ⟨w.heap.size, 4, none⟩ (.slice none 0 0)).setCell ⟨w.heap.size, 5, none⟩ (.int .i64 0)) := ⟨_, rfl⟩
    rw [← h8]
    have q8 : Only w.heap.size [24] w4 w8 ∧ w8.heap[w.heap.size]? = some (.cells #[.int .i64 0, .int .i64 0, .int .i64 0, .string ⟨#[]⟩, .slice none 0 0, .int .i64 0] 24 (0, 0)) := by
      rw [h8]
      exact (set_one (set_one (set_one (set_one (set_one (set_one ⟨Only.refl _ _ _, unhide RB5⟩ (Nat.le_refl _) (by simp) 0 _) (Nat.le_refl _) (by simp) 1 _) (Nat.le_refl _) (by simp) 2 _) (Nat.le_refl _) (by simp) 3 _) (Nat.le_refl _) (by simp) 4 _) (Nat.le_refl _) (by simp) 5 _)
    have d0 : w8.cell? ⟨w.heap.size, 0, none⟩ = some (.int .i64 0) := (cell_of_block q8.2).trans rfl
    have d1 : w8.cell? ⟨w.heap.size, 1, none⟩ = some (.int .i64 0) := (cell_of_block q8.2).trans rfl
    have d2 : w8.cell? ⟨w.heap.size, 2, none⟩ = some (.int .i64 0) := (cell_of_block q8.2).trans rfl
    have d3 : w8.cell? ⟨w.heap.size, 3, none⟩ = some (.string ⟨#[]⟩) := (cell_of_block q8.2).trans rfl
    have d4 : w8.cell? ⟨w.heap.size, 4, none⟩ = some (.slice none 0 0) := (cell_of_block q8.2).trans rfl
    have d5 : w8.cell? ⟨w.heap.size, 5, none⟩ = some (.int .i64 0) := (cell_of_block q8.2).trans rfl
    refine bodyPost_ret (v := .tuple #[.agg #[.int .i64 0, .int .i64 0, .int .i64 0, .string ⟨#[]⟩, .slice none 0 0, .int .i64 0], .int .i64 (er : Int)]) (by simp [results, Tryd.results26, go_sem, d0, d1, d2, d3, d4, d5]) rfl ?_
    rw [unhide HRR, unhide HER]
    exact ⟨_, rfl, (unhide KB4).trans q8.1.below, fun h => absurd h (unhide HR0), fun _ => rfl⟩
set_option maxRecDepth 20000 in
set_option maxHeartbeats 4000000 in
theorem xpParseConfig_any (ao : Option Addr) (n cap : Nat) (bs : List Nat) (w : World) (hg : Given w ao n cap bs) :
    Calls Tryd.prog 28 #[.slice ao n cap] w fun e w' => ∃ cs, e = .returned (.tuple #[.agg cs, .int .i64 (((rend n (rconfig bs (0, 0)).2).2 : Nat) : Int)]) ∧ Below w.heap.size w w' ∧
      ((rend n (rconfig bs (0, 0)).2).2 = 0 → ConfIs w.heap.size w' cs (rconfig bs (0, 0)).1) ∧
      ((rend n (rconfig bs (0, 0)).2).2 ≠ 0 → cs = #[.slice none 0 0, .slice none 0 0]) := by
  obtain ⟨W0, hW0⟩ : ∃ W, w.alloc (.cells #[.slice none 0 0, .slice none 0 0] 39) = W := ⟨_, rfl⟩
  have b0 : Below w.heap.size w W0 := by rw [← hW0]; exact (Below.refl _ w).alloc (Nat.le_refl _) _
  have x0 : W0.heap[w.heap.size]? = some (.cells #[.slice none 0 0, .slice none 0 0] 39 (0, 0)) := by rw [← hW0]; exact heap_alloc_new _ _
  obtain ⟨p, hp⟩ : ∃ p, w.heap.size + 1 = p := ⟨_, rfl⟩
  have hp0 : W0.heap.size = p := by rw [← hW0, ← hp]; simp
  obtain ⟨W1, hW1⟩ : ∃ W, W0.alloc (.cells #[.slice ao n cap, .int .i64 0, .int .i64 0] 92) = W := ⟨_, rfl⟩
  have b1 : Below W0.heap.size W0 W1 := by rw [← hW1]; exact (Below.refl _ W0).alloc (Nat.le_refl _) _
  have x1 : W1.heap[p]? = some (.cells #[.slice ao n cap, .int .i64 0, .int .i64 0] 92 (0, 0)) := by rw [← hW1, ← hp0]; exact heap_alloc_new _ _
  have RB1 := hide ((b1.block _ (heap_lt x0)).trans x0)
  have bb : Below w.heap.size w W1 := b0.trans (b1.mono b0.size)
  have GX : Hid (Xg w.heap.size W1 W1 p ao n cap bs (0, 0)) := hide ⟨⟨0, x1, by rw [← hp0]; exact b0.size, (fun _ => rfl), Nat.zero_le _⟩, ⟨hg.len, hg.room, hg.nul, hg.big, fun _ ho => hg.are.below (bb.trans ho.below)⟩, bb.size, Only.refl _ _ _, heap_lt x1⟩
  have BB := hide bb
  have HW0 := hide hW0
  have HW1 := hide hW1
  have HPP := hide hp
  clear hW0 b0 x0 hp hp0 hW1 b1 x1 bb hg
  go_enter Tryd.func28, Tryd.ntmps28
  go_wp2_with fail
  rw [unhide HW0, unhide HW1, unhide HPP]
  clear HW0 HW1 HPP
  refine (xconfig_any (unhide GX)).mono ?_
  rintro r w2 ⟨v1, v2, xs, ys, rfl, o1, o2, l2, y2, g2, k2⟩
  obtain ⟨ao1, cap1, rfl⟩ := row_slice o1
  obtain ⟨ao2, cap2, rfl⟩ := row_slice o2
  obtain ⟨n1, hn1⟩ : ∃ nm, xs.length = nm := ⟨_, rfl⟩
  obtain ⟨n2, hn2⟩ : ∃ nm, ys.length = nm := ⟨_, rfl⟩
  rw [hn1] at o1
  rw [hn2] at o2
  rw [hn1, hn2]
  have HNM := hide (And.intro hn1 hn2)
  have OO := hide (And.intro o1 o2)
  clear o1 o2 hn1 hn2 l2
  obtain ⟨rr, hrr⟩ : ∃ rr, rconfig bs (0, 0) = rr := ⟨_, rfl⟩
  rw [hrr] at y2 g2
  have HRR := hide hrr
  have RB2 := hide (k2.block (unhide RB1) (by decide))
  obtain ⟨E, hE⟩ : ∃ E, w2.heap.size = E := ⟨_, rfl⟩
  obtain ⟨W2, hW2⟩ : ∃ W, w2.alloc (.cells #[.slice ao1 n1 cap1, .slice ao2 n2 cap2] 39) = W := ⟨_, rfl⟩
  have b2 : Below w2.heap.size w2 W2 := by rw [← hW2]; exact (Below.refl _ w2).alloc (Nat.le_refl _) _
  have EB := hide (show W2.heap[E]? = some (.cells #[.slice ao1 n1 cap1, .slice ao2 n2 cap2] 39 (0, 0)) by rw [← hW2, ← hE]; exact heap_alloc_new _ _)
  have RB3 := hide ((b2.block _ (heap_lt (unhide RB2))).trans (unhide RB2))
  have G2 := hide (g2.fresh (b2.mono g2.on.size))
  have BO := hide b2
  have SZ : Hid (w.heap.size ≤ W1.heap.size) := hide (unhide BB).size
  have KB : Hid (Below w.heap.size w W2) := hide (((unhide BB).trans k2.below).trans (b2.mono (Nat.le_trans (unhide BB).size g2.on.size)))
  have Y2 := hide y2
  have HW2 := hide hW2
  have HE := hide hE
  clear y2 g2 k2 hrr hE hW2 b2 RB1 RB2 GX BB
  go_upto_region 3 with fail
  rw [unhide HW2, unhide HE]
  clear HW2 HE
  obtain ⟨er, her⟩ : ∃ er, (rend n rr.2).2 = er := ⟨_, rfl⟩
  have C1 := xend_any w.heap.size p ao n cap rr.2 W2 (unhide G2).q
  rw [her] at C1
  have CC1 := hide C1
  have HER := hide her
  clear C1 her
  go_wp2_with fail
  refine (unhide CC1).mono ?_
  rintro r w3 ⟨rfl, d3, hd3⟩
  have b3 : Below W2.heap.size W2 w3 := by rw [hd3]; exact drewN_below W2 d3
  clear hd3 CC1
  by_cases hr0 : er = 0
  · subst hr0
    have EB3 := hide ((b3.block _ (heap_lt (unhide EB))).trans (unhide EB))
    have RB4 := hide ((b3.block _ (heap_lt (unhide RB3))).trans (unhide RB3))
    have KB3 := hide ((unhide KB).trans (b3.mono (unhide KB).size))
    have BO3 := hide (below_far2 (unhide BO) b3)
    clear b3
    have hr0 : rr.2.2 = 0 := by
      have := unhide HER
      unfold rend at this
      split at this
      · simp only at this; split at this
        · cases this
        · assumption
      · exact this
    have a0 : w3.cell? ⟨E, 0, none⟩ = some (.slice ao1 n1 cap1) := (cell_of_block (unhide EB3)).trans rfl
    have z0 : w3.cell? ⟨w.heap.size, 0, none⟩ = some (.slice none 0 0) := (cell_of_block (unhide RB4)).trans rfl
    have a1 : w3.cell? ⟨E, 1, none⟩ = some (.slice ao2 n2 cap2) := (cell_of_block (unhide EB3)).trans rfl
    have z1 : w3.cell? ⟨w.heap.size, 1, none⟩ = some (.slice none 0 0) := (cell_of_block (unhide RB4)).trans rfl
    have fz : ∀ i, w3.frozen? ⟨w.heap.size, i, none⟩ = false := fun i => free_of_block (unhide RB4)
    have HR0 := hide hr0
    clear hr0
    go_wp2
    have hr0 := unhide HR0
    obtain ⟨w8, h8⟩ : ∃ w8 : World, w8 = ((w3.setCell ⟨w.heap.size, 0, none⟩ (.slice ao1 n1 cap1)).setCell ⟨w.heap.size, 1, none⟩ (.slice ao2 n2 cap2)) := ⟨_, rfl⟩
    rw [← h8]
    have q8 : Only w.heap.size [39] w3 w8 ∧ w8.heap[w.heap.size]? = some (.cells #[.slice ao1 n1 cap1, .slice ao2 n2 cap2] 39 (0, 0)) := by
      rw [h8]
      exact (set_one (set_one ⟨Only.refl _ _ _, unhide RB4⟩ (Nat.le_refl _) (by simp) 0 _) (Nat.le_refl _) (by simp) 1 _)
    have d0 : w8.cell? ⟨w.heap.size, 0, none⟩ = some (.slice ao1 n1 cap1) := (cell_of_block q8.2).trans rfl
    have d1 : w8.cell? ⟨w.heap.size, 1, none⟩ = some (.slice ao2 n2 cap2) := (cell_of_block q8.2).trans rfl
    refine bodyPost_ret (v := .tuple #[.agg #[.slice ao1 n1 cap1, .slice ao2 n2 cap2], .int .i64 0]) (by simp [results, Tryd.results28, go_sem, d0, d1]) rfl ?_
    rw [unhide HRR]
    refine ⟨#[.slice ao1 n1 cap1, .slice ao2 n2 cap2], ?_, (unhide KB3).trans q8.1.below, ?_, fun h => absurd (unhide HER) h⟩
    · rw [unhide HER]; rfl
    · refine fun _ => ⟨.slice ao1 n1 cap1, .slice ao2 n2 cap2, rfl, ?_, ?_⟩
      · rw [← unhide Y2 hr0]
        simp only [(unhide HNM).1]
        exact own_wide (own_only (own_only (unhide OO).1 (Only.of_below (ts := []) (unhide BO3) (Nat.le_refl _)) (by simp)) q8.1 (by decide)) (unhide SZ)
      · rw [← unhide Y2 hr0]
        simp only [(unhide HNM).2]
        exact own_wide (own_only (own_only (unhide OO).2 (Only.of_below (ts := []) (unhide BO3) (Nat.le_refl _)) (by simp)) q8.1 (by decide)) (unhide SZ)
  · have q1 : ((er : Int) != 0) = true := by simp; omega
    have C1 := xend_any w.heap.size p ao n cap rr.2 w3 ((unhide G2).q.below b3)
    rw [unhide HER] at C1
    have CC1 := hide C1
    have RB4 := hide ((b3.block _ (heap_lt (unhide RB3))).trans (unhide RB3))
    have KB3 := hide ((unhide KB).trans (b3.mono (unhide KB).size))
    have HR0 := hide hr0
    clear C1 hr0 b3
    go_wp2_with fail
    refine (unhide CC1).mono ?_
    rintro r w4 ⟨rfl, d4, hd4⟩
    have b4 : Below w3.heap.size w3 w4 := by rw [hd4]; exact drewN_below w3 d4
    have RB5 := hide ((b4.block _ (heap_lt (unhide RB4))).trans (unhide RB4))
    have KB4 := hide ((unhide KB3).trans (b4.mono (unhide KB3).size))
    clear hd4 b4 CC1
    have z0 : w4.cell? ⟨w.heap.size, 0, none⟩ = some (.slice none 0 0) := (cell_of_block (unhide RB5)).trans rfl
    have z1 : w4.cell? ⟨w.heap.size, 1, none⟩ = some (.slice none 0 0) := (cell_of_block (unhide RB5)).trans rfl
    have fz : ∀ i, w4.frozen? ⟨w.heap.size, i, none⟩ = false := fun i => free_of_block (unhide RB5)
    go_wp2
    obtain ⟨w8, h8⟩ : ∃ w8 : World, w8 = ((w4.setCell ⟨w.heap.size, 0, none⟩ (.slice none 0 0)).setCell ⟨w.heap.size, 1, none⟩ (.slice none 0 0)) := ⟨_, rfl⟩
    rw [← h8]
    have q8 : Only w.heap.size [39] w4 w8 ∧ w8.heap[w.heap.size]? = some (.cells #[.slice none 0 0, .slice none 0 0] 39 (0, 0)) := by
      rw [h8]
      exact (set_one (set_one ⟨Only.refl _ _ _, unhide RB5⟩ (Nat.le_refl _) (by simp) 0 _) (Nat.le_refl _) (by simp) 1 _)
    have d0 : w8.cell? ⟨w.heap.size, 0, none⟩ = some (.slice none 0 0) := (cell_of_block q8.2).trans rfl
    have d1 : w8.cell? ⟨w.heap.size, 1, none⟩ = some (.slice none 0 0) := (cell_of_block q8.2).trans rfl
    refine bodyPost_ret (v := .tuple #[.agg #[.slice none 0 0, .slice none 0 0], .int .i64 (er : Int)]) (by simp [results, Tryd.results28, go_sem, d0, d1]) rfl ?_
    rw [unhide HRR, unhide HER]
    exact ⟨_, rfl, (unhide KB4).trans q8.1.below, fun h => absurd h (unhide HR0), fun _ => rfl⟩
end Go.Proofs.YtojmnlbdhpledaaDoor
namespace Go.Proofs.YtojmnlbdhpledaaDoor
open Go.RowKit

theorem ref2 (v : Nat) : refuse 2 (v : Int) = if v < 1 ∨ 15 < v then 3 else 0 := by unfold refuse rule; simp only; split <;> split <;> omega
theorem ref3 (v : Nat) : refuse 3 (v : Int) = if 1 < v then 12 else 0 := by unfold refuse rule; simp only; split <;> split <;> omega
theorem ref6 (v : Nat) : refuse 6 (v : Int) = if 64 < v then 4 else 0 := by unfold refuse rule; simp only; split <;> split <;> omega
/-- a message's kind: a byte of at most 15, and not 0. -/
theorem kind_rule (bs : List Nat) (s : Nat × Nat) : rrule bs 2 s = if (xmost bs 15 3 s).2.2 = 0 ∧ (xmost bs 15 3 s).1 < 1 then (0, ((xmost bs 15 3 s).2.1, 3)) else xmost bs 15 3 s := by
  by_cases ht : (rtake bs.length 1 s).2 = 0
  · by_cases hm : 15 < joinTo 0 (taken bs 1 s)
    · have e1 : xmost bs 15 3 s = (0, ((rtake bs.length 1 s).1, 3)) := by unfold xmost; rw [if_pos ⟨ht, hm⟩]
      rw [e1, if_neg (by simp)]
      unfold rrule
      rw [ref2, if_pos (Or.inr hm), if_neg (by decide), if_pos ht]
    · have e1 : xmost bs 15 3 s = (joinTo 0 (taken bs 1 s), rtake bs.length 1 s) := by unfold xmost; rw [if_neg (fun x => hm x.2)]
      rw [e1]
      unfold rrule
      by_cases h0 : joinTo 0 (taken bs 1 s) < 1
      · rw [ref2, if_pos (Or.inl h0), if_neg (by decide), if_pos ht, if_pos ⟨ht, h0⟩]
      · have hz : refuse 2 ((joinTo 0 (taken bs 1 s) : Nat) : Int) = 0 := by rw [ref2, if_neg (by omega)]
        rw [if_pos hz, if_neg (fun x => h0 x.2)]
  · have e1 : xmost bs 15 3 s = (0, rtake bs.length 1 s) := by
      unfold xmost; rw [if_neg (fun x => ht x.1), taken_no ht]; simp [joinTo]
    rw [e1, if_neg (fun x => ht x.1)]
    unfold rrule
    rw [taken_no ht]
    have : joinTo 0 ([] : List Nat) = 0 := by simp [joinTo]
    rw [this, ref2, if_pos (Or.inl (by decide)), if_neg (by decide), if_neg ht]
theorem rentriesN_er (bs : List Nat) (t : Nat × Nat) (j : Nat) (h : (rentriesN bs j t).2.2 ≠ 0) : ∀ d, (rentriesN bs (j + d) t).2.2 = (rentriesN bs j t).2.2
  | 0 => rfl
  | d + 1 => by
    have ih := rentriesN_er bs t j h d
    have hs : Stays (fun bs s => rentry bs s) := entryR_stays
    have h1 := hs bs (rentriesN bs (j + d) t).2 (by rw [ih]; exact h)
    simp only at h1
    have e : (rentriesN bs (j + (d + 1)) t).2 = (rentry bs (rentriesN bs (j + d) t).2).2 := by rw [← Nat.add_assoc, rentriesN]
    rw [e, h1, ih]
end Go.Proofs.YtojmnlbdhpledaaDoor
namespace Go.Proofs.YtojmnlbdhpledaaDoor
open Go.RowKit
theorem set13 {base B : Nat} {ts : List TypeId} {y : World} {v0 v1 v2 v3 v4 v5 v6 v7 v8 v9 v10 v11 v12 z0 z1 z2 z3 z4 z5 z6 z7 z8 z9 z10 z11 z12 : Value} {t : TypeId} (hz : y.heap[B]? = some (.cells #[z0, z1, z2, z3, z4, z5, z6, z7, z8, z9, z10, z11, z12] t (0, 0))) (hB : base ≤ B) (ht : t ∈ ts) (W : World)
    (hW : W = (((((((((((((y.setCell ⟨B, 0, none⟩ v0).setCell ⟨B, 1, none⟩ v1).setCell ⟨B, 2, none⟩ v2).setCell ⟨B, 3, none⟩ v3).setCell ⟨B, 4, none⟩ v4).setCell ⟨B, 5, none⟩ v5).setCell ⟨B, 6, none⟩ v6).setCell ⟨B, 7, none⟩ v7).setCell ⟨B, 8, none⟩ v8).setCell ⟨B, 9, none⟩ v9).setCell ⟨B, 10, none⟩ v10).setCell ⟨B, 11, none⟩ v11).setCell ⟨B, 12, none⟩ v12)) : Only base ts y W ∧ W.heap[B]? = some (.cells #[v0, v1, v2, v3, v4, v5, v6, v7, v8, v9, v10, v11, v12] t (0, 0)) := by
  obtain ⟨y0, e0⟩ : ∃ x, y.setCell ⟨B, 0, none⟩ v0 = x := ⟨_, rfl⟩
  have h0 : Only base ts y y0 ∧ y0.heap[B]? = some (.cells #[v0, z1, z2, z3, z4, z5, z6, z7, z8, z9, z10, z11, z12] t (0, 0)) := by rw [← e0]; exact set_one ⟨Only.refl base ts y, hz⟩ hB ht 0 _
  obtain ⟨y1, e1⟩ : ∃ x, y0.setCell ⟨B, 1, none⟩ v1 = x := ⟨_, rfl⟩
  have h1 : Only base ts y y1 ∧ y1.heap[B]? = some (.cells #[v0, v1, z2, z3, z4, z5, z6, z7, z8, z9, z10, z11, z12] t (0, 0)) := by rw [← e1]; exact set_one h0 hB ht 1 _
  obtain ⟨y2, e2⟩ : ∃ x, y1.setCell ⟨B, 2, none⟩ v2 = x := ⟨_, rfl⟩
  have h2 : Only base ts y y2 ∧ y2.heap[B]? = some (.cells #[v0, v1, v2, z3, z4, z5, z6, z7, z8, z9, z10, z11, z12] t (0, 0)) := by rw [← e2]; exact set_one h1 hB ht 2 _
  obtain ⟨y3, e3⟩ : ∃ x, y2.setCell ⟨B, 3, none⟩ v3 = x := ⟨_, rfl⟩
  have h3 : Only base ts y y3 ∧ y3.heap[B]? = some (.cells #[v0, v1, v2, v3, z4, z5, z6, z7, z8, z9, z10, z11, z12] t (0, 0)) := by rw [← e3]; exact set_one h2 hB ht 3 _
  obtain ⟨y4, e4⟩ : ∃ x, y3.setCell ⟨B, 4, none⟩ v4 = x := ⟨_, rfl⟩
  have h4 : Only base ts y y4 ∧ y4.heap[B]? = some (.cells #[v0, v1, v2, v3, v4, z5, z6, z7, z8, z9, z10, z11, z12] t (0, 0)) := by rw [← e4]; exact set_one h3 hB ht 4 _
  obtain ⟨y5, e5⟩ : ∃ x, y4.setCell ⟨B, 5, none⟩ v5 = x := ⟨_, rfl⟩
  have h5 : Only base ts y y5 ∧ y5.heap[B]? = some (.cells #[v0, v1, v2, v3, v4, v5, z6, z7, z8, z9, z10, z11, z12] t (0, 0)) := by rw [← e5]; exact set_one h4 hB ht 5 _
  obtain ⟨y6, e6⟩ : ∃ x, y5.setCell ⟨B, 6, none⟩ v6 = x := ⟨_, rfl⟩
  have h6 : Only base ts y y6 ∧ y6.heap[B]? = some (.cells #[v0, v1, v2, v3, v4, v5, v6, z7, z8, z9, z10, z11, z12] t (0, 0)) := by rw [← e6]; exact set_one h5 hB ht 6 _
  obtain ⟨y7, e7⟩ : ∃ x, y6.setCell ⟨B, 7, none⟩ v7 = x := ⟨_, rfl⟩
  have h7 : Only base ts y y7 ∧ y7.heap[B]? = some (.cells #[v0, v1, v2, v3, v4, v5, v6, v7, z8, z9, z10, z11, z12] t (0, 0)) := by rw [← e7]; exact set_one h6 hB ht 7 _
  obtain ⟨y8, e8⟩ : ∃ x, y7.setCell ⟨B, 8, none⟩ v8 = x := ⟨_, rfl⟩
  have h8 : Only base ts y y8 ∧ y8.heap[B]? = some (.cells #[v0, v1, v2, v3, v4, v5, v6, v7, v8, z9, z10, z11, z12] t (0, 0)) := by rw [← e8]; exact set_one h7 hB ht 8 _
  obtain ⟨y9, e9⟩ : ∃ x, y8.setCell ⟨B, 9, none⟩ v9 = x := ⟨_, rfl⟩
  have h9 : Only base ts y y9 ∧ y9.heap[B]? = some (.cells #[v0, v1, v2, v3, v4, v5, v6, v7, v8, v9, z10, z11, z12] t (0, 0)) := by rw [← e9]; exact set_one h8 hB ht 9 _
  obtain ⟨y10, e10⟩ : ∃ x, y9.setCell ⟨B, 10, none⟩ v10 = x := ⟨_, rfl⟩
  have h10 : Only base ts y y10 ∧ y10.heap[B]? = some (.cells #[v0, v1, v2, v3, v4, v5, v6, v7, v8, v9, v10, z11, z12] t (0, 0)) := by rw [← e10]; exact set_one h9 hB ht 10 _
  obtain ⟨y11, e11⟩ : ∃ x, y10.setCell ⟨B, 11, none⟩ v11 = x := ⟨_, rfl⟩
  have h11 : Only base ts y y11 ∧ y11.heap[B]? = some (.cells #[v0, v1, v2, v3, v4, v5, v6, v7, v8, v9, v10, v11, z12] t (0, 0)) := by rw [← e11]; exact set_one h10 hB ht 11 _
  obtain ⟨y12, e12⟩ : ∃ x, y11.setCell ⟨B, 12, none⟩ v12 = x := ⟨_, rfl⟩
  have h12 : Only base ts y y12 ∧ y12.heap[B]? = some (.cells #[v0, v1, v2, v3, v4, v5, v6, v7, v8, v9, v10, v11, v12] t (0, 0)) := by rw [← e12]; exact set_one h11 hB ht 12 _
  rw [e0, e1, e2, e3, e4, e5, e6, e7, e8, e9, e10, e11, e12] at hW
  subst hW
  exact h12
end Go.Proofs.YtojmnlbdhpledaaDoor

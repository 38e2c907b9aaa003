/- The document's own log: Entry, Append: contracts. -/
import Derived.Test.YtmgdkbpbmngibaaHXRef
import Derived.Test.YtmgdkbpbmngibaaHEntry
import Derived.Test.YtmgdkbpbmngibaaHApp
namespace Go.Proofs.Ytmgdkbpbmngibaa
open Go.RowKit Go.Maps

set_option maxRecDepth 20000 in
set_option maxHeartbeats 2000000 in
theorem xentry_any {base : Nat} {D : Nat → Prop} {w : World} {p : Nat} {b : Int} {rs : List Rw} (h : Xs base D w p b rs) (hf : Fit b rs) (i : Int) (hbase : base ≤ w.heap.size) :
    Calls Try.prog 47 #[.pointer (some ⟨p, 0, none⟩), .int .i64 i] w fun e w' => ∃ mo cap, e = .returned (.tuple #[.agg #[.int .i64 (entOf b rs i).kind, .int .i64 (entOf b rs i).client, .int .i64 (entOf b rs i).seq, .string (entOf b rs i).text, .slice mo (entOf b rs i).ms.length cap, .int .i64 (entOf b rs i).dest], .bool (rowAt b rs i).isSome]) ∧ InF (fun k => k < base) w' mo (entOf b rs i).ms ∧ (entOf b rs i).ms.length ≤ 1000000 ∧ Below w.heap.size w w' := by
  obtain ⟨W, hW⟩ : ∃ W, w.alloc (.cells #[.int .i64 0, .int .i64 0, .int .i64 0, .string ⟨#[]⟩, .slice none 0 0, .int .i64 0] 60) = W := ⟨_, rfl⟩
  have bW : Below w.heap.size w W := by rw [← hW]; exact (Below.refl _ w).alloc (Nat.le_refl _) _
  have xW : W.heap[w.heap.size]? = some (.cells #[.int .i64 0, .int .i64 0, .int .i64 0, .string ⟨#[]⟩, .slice none 0 0, .int .i64 0] 60 (0, 0)) := by rw [← hW]; exact box_at _ _
  have hW1 := h.below bW
  have LA := hide (xlast_any hW1 hf)
  obtain ⟨L, hL⟩ : ∃ L, b + (rs.length : Int) = L := ⟨_, rfl⟩
  rw [hL] at LA
  obtain ⟨⟨tv, ev, hbx, h2, h3, _, _⟩, _, _, _⟩ := hW1
  have hb0 := hf.b0
  have hb1 := hf.b1
  have hn1 := hf.n1
  have c0 := (three_cells hbx).1
  have HW := hide hW
  have BW := hide bW
  have XW := hide xW
  by_cases g1 : b < i ∧ i ≤ L
  · have d1 : decide (i ≤ b) = false := decide_eq_false (by omega)
    have d2 : decide (L < i) = false := decide_eq_false (by omega)
    obtain ⟨r, hr1, hr2⟩ := rowAt_some (b := b) (rs := rs) (i := i) (by omega)
    have ht : entOf b rs i = r.2 := by unfold entOf; rw [hr1]
    rw [ht, hr1]
    obtain ⟨k, hk⟩ : ∃ k, (i - b - 1).toNat = k := ⟨_, rfl⟩
    rw [hk] at hr2
    have hkl := (List.getElem?_eq_some_iff.1 hr2).1
    obtain ⟨ao, cap, rfl, _, _⟩ := h3.slice
    obtain ⟨t, e⟩ := r
    obtain ⟨g, mo, mc, rfl, hcl, him, hml⟩ := h3.at (k := k) (e := e) (by rw [List.getElem?_map, hr2]; rfl)
    rw [List.length_map] at hbx
    obtain ⟨n, hn⟩ : ∃ n, rs.length = n := ⟨_, rfl⟩
    rw [hn] at hbx hkl
    obtain ⟨kind, client, seq, text, ms, dest⟩ := e
    obtain ⟨z, hz⟩ : ∃ z, ms.length = z := ⟨_, rfl⟩
    simp only [hz] at hcl him hml ⊢
    have HX := hide hbx
    have HC := hide hcl
    have IM := hide him
    have HML := hide hml
    have HZ := hide hz
    have e1 : i - b - 1 = (k : Int) := by omega
    have w1 : IntKind.i64.wrap (i - b) = (k : Int) + 1 := by rw [IntWalk.i64_in _ (by omega)]; omega
    have hkI : (k : Int) < (n : Int) := by omega
    have wrk : IntKind.i64.wrap (k : Int) = (k : Int) := IntWalk.i64_in _ (by omega)
    clear hbx h2 h3 ht hr1 hr2 hk hcl him hml hn g1 hW bW xW hz
    go_enter Try.func47, Try.ntmps47
    go_upto_region 1 with fail
    rw [unhide HW]
    go_wp2_with fail
    refine (unhide LA).mono ?_
    rintro x w2 ⟨rfl, b2⟩
    obtain ⟨k0, _, k2⟩ := three_cells (Below.stay b2 (unhide HX))
    have k0' : w2.drew.cell? ⟨p, 0, none⟩ = some (.int .i64 b) := k0
    have k2' : w2.drew.cell? ⟨p, 2, none⟩ = some (.slice (some ⟨g, 0, none⟩) n cap) := k2
    have CC := fun (j : Nat) (u : Value) (hj : (En.cells ⟨kind, client, seq, text, ms, dest⟩ (.slice mo z mc))[j]? = some u) => show w2.drew.cell? ⟨g, k * 6 + j, none⟩ = some u by
      have := unhide HC j u hj
      show w2.cell? _ = _
      rw [b2.cell (blk_lt this)]; exact this
    obtain ⟨q0, q1, q2, q3, q4, q5⟩ := En.six (w := w2.drew) CC
    simp only at q0 q1 q2 q3 q5
    have x3 : w2.drew.heap[w.heap.size]? = _ := Below.stay b2 (unhide XW)
    have X3 := hide x3
    have z0 : w2.drew.cell? ⟨w.heap.size, 0, none⟩ = some (.int .i64 0) := (cell_of_block x3).trans rfl
    have z1 : w2.drew.cell? ⟨w.heap.size, 1, none⟩ = some (.int .i64 0) := (cell_of_block x3).trans rfl
    have z2 : w2.drew.cell? ⟨w.heap.size, 2, none⟩ = some (.int .i64 0) := (cell_of_block x3).trans rfl
    have z3 : w2.drew.cell? ⟨w.heap.size, 3, none⟩ = some (.string ⟨#[]⟩) := (cell_of_block x3).trans rfl
    have z4 : w2.drew.cell? ⟨w.heap.size, 4, none⟩ = some (.slice none 0 0) := (cell_of_block x3).trans rfl
    have z5 : w2.drew.cell? ⟨w.heap.size, 5, none⟩ = some (.int .i64 0) := (cell_of_block x3).trans rfl
    have fz : ∀ i, w2.drew.frozen? ⟨w.heap.size, i, none⟩ = false := fun i => free_of_block x3
    have y0 : w2.cell? ⟨w.heap.size, 0, none⟩ = some (.int .i64 0) := z0
    have y1 : w2.cell? ⟨w.heap.size, 1, none⟩ = some (.int .i64 0) := z1
    have y2 : w2.cell? ⟨w.heap.size, 2, none⟩ = some (.int .i64 0) := z2
    have y3 : w2.cell? ⟨w.heap.size, 3, none⟩ = some (.string ⟨#[]⟩) := z3
    have y4 : w2.cell? ⟨w.heap.size, 4, none⟩ = some (.slice none 0 0) := z4
    have y5 : w2.cell? ⟨w.heap.size, 5, none⟩ = some (.int .i64 0) := z5
    have fy : ∀ i, w2.frozen? ⟨w.heap.size, i, none⟩ = false := fz
    have B2 := hide (below_far (unhide BW) b2)
    have IM2 := hide ((unhide IM).below b2)
    clear b2 LA x3 CC HC IM k0 k2
    go_wp2_with fail
    go_region_with (fail)
    all_goals go_wp2
    all_goals
      obtain ⟨V, hV⟩ : ∃ V : World, V = ((((((w2.setCell ⟨w.heap.size, 0, none⟩ (.int .i64 kind)).setCell ⟨w.heap.size, 1, none⟩ (.int .i64 client)).setCell ⟨w.heap.size, 2, none⟩ (.int .i64 seq)).setCell ⟨w.heap.size, 3, none⟩ (.string text)).setCell ⟨w.heap.size, 4, none⟩ (.slice mo z mc)).setCell ⟨w.heap.size, 5, none⟩ (.int .i64 dest)) := ⟨_, rfl⟩
      rw [← hV]
      obtain ⟨d0, d1, d2, d3, d4, d5, bV, kV⟩ := six_end (y := w2) (unhide X3) (Nat.le_refl _) (unhide B2) V hV
      have d0' : V.drew.cell? ⟨w.heap.size, 0, none⟩ = some (.int .i64 kind) := d0
      have d1' : V.drew.cell? ⟨w.heap.size, 1, none⟩ = some (.int .i64 client) := d1
      have d2' : V.drew.cell? ⟨w.heap.size, 2, none⟩ = some (.int .i64 seq) := d2
      have d3' : V.drew.cell? ⟨w.heap.size, 3, none⟩ = some (.string text) := d3
      have d4' : V.drew.cell? ⟨w.heap.size, 4, none⟩ = some (.slice mo z mc) := d4
      have d5' : V.drew.cell? ⟨w.heap.size, 5, none⟩ = some (.int .i64 dest) := d5
      refine bodyPost_ret (v := .tuple #[.agg #[.int .i64 kind, .int .i64 client, .int .i64 seq, .string text, .slice mo z mc, .int .i64 dest], .bool true]) (by simp [results, Try.results47, go_sem, d0', d1', d2', d3', d4', d5']) rfl ⟨mo, mc, rfl, ?_, unhide HML, bV.drew⟩
      intro j hj
      obtain ⟨a, a1, a2, a3⟩ := unhide IM2 j hj
      exact ⟨a, a1, a2, by rw [← a3]; exact World.cell?_of_block (w := w2) (kV _ (by rw [add_block]; have := a2; omega))⟩
  · have ht : entOf b rs i = zeroEn := by unfold entOf; rw [rowAt_none (by omega)]
    rw [ht, rowAt_none (by omega)]
    by_cases g2 : i ≤ b
    · have x3 := xW
      have X3 := hide x3
      have z0 : W.cell? ⟨w.heap.size, 0, none⟩ = some (.int .i64 0) := (cell_of_block x3).trans rfl
      have z1 : W.cell? ⟨w.heap.size, 1, none⟩ = some (.int .i64 0) := (cell_of_block x3).trans rfl
      have z2 : W.cell? ⟨w.heap.size, 2, none⟩ = some (.int .i64 0) := (cell_of_block x3).trans rfl
      have z3 : W.cell? ⟨w.heap.size, 3, none⟩ = some (.string ⟨#[]⟩) := (cell_of_block x3).trans rfl
      have z4 : W.cell? ⟨w.heap.size, 4, none⟩ = some (.slice none 0 0) := (cell_of_block x3).trans rfl
      have z5 : W.cell? ⟨w.heap.size, 5, none⟩ = some (.int .i64 0) := (cell_of_block x3).trans rfl
      have fz : ∀ i, W.frozen? ⟨w.heap.size, i, none⟩ = false := fun i => free_of_block x3
      clear ht g1 hW bW xW hbx h2 h3 LA x3
      go_enter Try.func47, Try.ntmps47
      go_upto_region 1 with fail
      rw [unhide HW]
      go_wp2
      obtain ⟨V, hV⟩ : ∃ V : World, V = ((((((W.setCell ⟨w.heap.size, 0, none⟩ (.int .i64 0)).setCell ⟨w.heap.size, 1, none⟩ (.int .i64 0)).setCell ⟨w.heap.size, 2, none⟩ (.int .i64 0)).setCell ⟨w.heap.size, 3, none⟩ (.string ⟨#[]⟩)).setCell ⟨w.heap.size, 4, none⟩ (.slice none 0 0)).setCell ⟨w.heap.size, 5, none⟩ (.int .i64 0)) := ⟨_, rfl⟩
      rw [← hV]
      obtain ⟨d0, d1, d2, d3, d4, d5, bV, kV⟩ := six_end (unhide X3) (Nat.le_refl _) (unhide BW) V hV
      exact bodyPost_ret (v := .tuple #[.agg #[.int .i64 0, .int .i64 0, .int .i64 0, .string ⟨#[]⟩, .slice none 0 0, .int .i64 0], .bool false]) (by simp [results, Try.results47, go_sem, d0, d1, d2, d3, d4, d5]) rfl ⟨none, 0, rfl, InF.nil _ _ _, Nat.zero_le _, bV⟩
    · have d1 : decide (i ≤ b) = false := decide_eq_false g2
      have d2 : decide (L < i) = true := decide_eq_true (by omega)
      clear ht g1 g2 hW bW xW hbx h2 h3
      go_enter Try.func47, Try.ntmps47
      go_upto_region 1 with fail
      rw [unhide HW]
      go_wp2_with fail
      refine (unhide LA).mono ?_
      rintro x w2 ⟨rfl, b2⟩
      have x3 := Below.stay b2 (unhide XW)
      have X3 := hide x3
      have z0 : w2.cell? ⟨w.heap.size, 0, none⟩ = some (.int .i64 0) := (cell_of_block x3).trans rfl
      have z1 : w2.cell? ⟨w.heap.size, 1, none⟩ = some (.int .i64 0) := (cell_of_block x3).trans rfl
      have z2 : w2.cell? ⟨w.heap.size, 2, none⟩ = some (.int .i64 0) := (cell_of_block x3).trans rfl
      have z3 : w2.cell? ⟨w.heap.size, 3, none⟩ = some (.string ⟨#[]⟩) := (cell_of_block x3).trans rfl
      have z4 : w2.cell? ⟨w.heap.size, 4, none⟩ = some (.slice none 0 0) := (cell_of_block x3).trans rfl
      have z5 : w2.cell? ⟨w.heap.size, 5, none⟩ = some (.int .i64 0) := (cell_of_block x3).trans rfl
      have fz : ∀ i, w2.frozen? ⟨w.heap.size, i, none⟩ = false := fun i => free_of_block x3
      have B2 := hide (below_far (unhide BW) b2)
      clear b2 LA x3
      go_wp2
      obtain ⟨V, hV⟩ : ∃ V : World, V = ((((((w2.setCell ⟨w.heap.size, 0, none⟩ (.int .i64 0)).setCell ⟨w.heap.size, 1, none⟩ (.int .i64 0)).setCell ⟨w.heap.size, 2, none⟩ (.int .i64 0)).setCell ⟨w.heap.size, 3, none⟩ (.string ⟨#[]⟩)).setCell ⟨w.heap.size, 4, none⟩ (.slice none 0 0)).setCell ⟨w.heap.size, 5, none⟩ (.int .i64 0)) := ⟨_, rfl⟩
      rw [← hV]
      obtain ⟨e0, e1, e2, e3, e4, e5, bV, kV⟩ := six_end (unhide X3) (Nat.le_refl _) (unhide B2) V hV
      exact bodyPost_ret (v := .tuple #[.agg #[.int .i64 0, .int .i64 0, .int .i64 0, .string ⟨#[]⟩, .slice none 0 0, .int .i64 0], .bool false]) (by simp [results, Try.results47, go_sem, e0, e1, e2, e3, e4, e5]) rfl ⟨none, 0, rfl, InF.nil _ _ _, Nat.zero_le _, bV⟩
end Go.Proofs.Ytmgdkbpbmngibaa

/- seal.twin: a contract. -/
import Derived.Test.YtgllokinadjiaaaSBase
import Derived.Laws.CopyOwn
namespace Go.Proofs.Ytgllokinadjiaaa
open Go.RowKit Go.Maps

theorem Try.sizeI : (Try.prog.info? 3).map (·.size) = some 1 := by kernel_rfl
theorem splice_all {α : Type} (L cs : List α) (h : L.length = cs.length) : splice L 0 cs = cs := by
  unfold splice
  simp [h]
set_option maxRecDepth 20000 in
set_option maxHeartbeats 2000000 in
theorem setwin_any (g : Gn) (xo : Option Addr) (xn xc : Nat) (mo : Option Addr) (n cap : Nat) (hn : g.ms.length = n) (hl : n ≤ 1000000) (w : World) (hb : IntsR w mo g.ms) :
    Calls Try.prog 23 #[.agg #[.int .i64 g.n, .int .i64 g.eng, .int .i64 g.base, .slice xo xn xc, .slice mo n cap]] w fun x w' =>
      ∃ b, x = .returned (.agg #[.int .i64 g.n, .int .i64 g.eng, .int .i64 g.base, .slice none 0 0, .slice (some ⟨b, 0, none⟩) n n]) ∧ Ir w.heap.size w' (.slice (some ⟨b, 0, none⟩) n n) g.ms ∧ Below w.heap.size w w' := by
  obtain ⟨gn, ge, gb, ms⟩ := g
  simp only at hb hn ⊢
  obtain ⟨i0, hi, hz0, hz1, hz2⟩ := info_parts Try.infoI
  obtain ⟨W0, hW0⟩ : ∃ W, w.alloc (.cells #[.int .i64 gn, .int .i64 ge, .int .i64 gb, .slice xo xn xc, .slice mo n cap] 32) = W := ⟨_, rfl⟩
  obtain ⟨W, hW⟩ : ∃ W, W0.alloc (.cells #[.int .i64 0, .int .i64 0, .int .i64 0, .slice none 0 0, .slice none 0 0] 32) = W := ⟨_, rfl⟩
  have s0 : W0.heap.size = w.heap.size + 1 := by rw [← hW0]; simp
  have b0 : Below w.heap.size w W0 := by rw [← hW0]; exact (Below.refl _ w).alloc (Nat.le_refl _) _
  have b1 : Below W0.heap.size W0 W := by rw [← hW]; exact (Below.refl _ W0).alloc (Nat.le_refl _) _
  have bW := below_far b0 b1
  have x0 : W.heap[w.heap.size]? = some (.cells #[.int .i64 gn, .int .i64 ge, .int .i64 gb, .slice xo xn xc, .slice mo n cap] 32 (0, 0)) := Below.stay b1 (by rw [← hW0]; exact box_at _ _)
  have x1 : W.heap[w.heap.size + 1]? = some (.cells #[.int .i64 0, .int .i64 0, .int .i64 0, .slice none 0 0, .slice none 0 0] 32 (0, 0)) := by rw [← s0, ← hW]; exact box_at _ _
  have HW : Hid ((w.alloc (.cells #[.int .i64 gn, .int .i64 ge, .int .i64 gb, .slice xo xn xc, .slice mo n cap] 32)).alloc (.cells #[.int .i64 0, .int .i64 0, .int .i64 0, .slice none 0 0, .slice none 0 0] 32) = W) := by rw [hW0]; exact hW
  have a4 : W.cell? ⟨w.heap.size, 4, none⟩ = some (.slice mo n cap) := (cell_of_block x0).trans rfl
  have BW := hide bW
  have X0 := hide x0
  have X1 := hide x1
  have HB := hide (hb.below bW)
  have HN := hide hn
  clear hW hW0 s0 b0 b1 bW x0 x1 hb hn
  go_enter Try.func23, Try.ntmps23
  go_upto_region 1 with fail
  rw [unhide HW]
  go_wp2_with (at_make; refine wpList_make_full _ rfl _ _ 22 rfl W.heap.size 3 i0 (.int .i64 0) 1 Try.underlying22 hi hz0 hz1 .i64 .i64 _ _ n rfl rfl rfl rfl (by rw [hz2]; omega) (by unfold maxLen; omega) (Nat.le_refl _) ?_)
  intro w1 hown1 hgrow1
  obtain ⟨cur, hg, hcs⟩ : ∃ cur : Array Value, w1.heap[W.heap.size]? = some (.cells cur.toList.toArray 3 (0, 0)) ∧ cur.toList.length = n := by
    rcases hown1.2 with ⟨h, _⟩ | ⟨g, cap, cur, hv, _, hh, _, _, hc, _⟩
    · cases h
    · cases hv
      exact ⟨cur, by simpa using hh, by simpa using hc⟩
  have b1 : Below W.heap.size W w1 := (Below.refl _ _).grown hgrow1 (Nat.le_refl _) (fun k hk => by cases hk)
  have hmin : (i64s ms).length = Nat.min n n := by rw [show Nat.min n n = n from Nat.min_self n]; simp [i64s, unhide HN]
  have hfit : 0 + (i64s ms).length ≤ cur.toList.length := by rw [hcs]; simp [i64s, unhide HN]
  have hpos : 0 < (i64s ms).length → ∃ ad, mo = some ad ∧ ∀ j v, (i64s ms)[j]? = some v → w1.cell? (ad.add j) = some v := by
    intro h0
    cases mo with
    | none => have e := (unhide HB).none_nil; subst e; simp [i64s] at h0
    | some a =>
      refine ⟨a, rfl, fun j u hj => ?_⟩
      rw [i64s, List.getElem?_map] at hj
      cases hq : ms[j]? with
      | none => rw [hq] at hj; simp at hj
      | some y =>
        rw [hq] at hj; simp at hj; subst hj
        obtain ⟨a', e, hcell⟩ := ((unhide HB).below b1) j (List.getElem?_eq_some_iff.1 hq).1
        cases e
        rw [hcell, List.getD_eq_getElem?_getD, hq]; rfl
  have a4' : w1.cell? ⟨w.heap.size, 4, none⟩ = some (.slice mo n cap) := (cell_of_block (Below.stay b1 (unhide X0))).trans rfl
  have HG := hide hg
  have HC := hide hcs
  have B1 := hide b1
  have HM := hide hmin
  have HF := hide hfit
  have HPO := hide hpos
  clear hg hcs b1 hown1 hgrow1 hmin hfit hpos a4
  go_wp2_with (refine wpList_copy_splice rfl (.tmp 9) (.tmp 12) 22 22 rfl 3 Try.underlying22 Try.sizeI _ _ _ _ _ _ rfl rfl W.heap.size 0 cur.toList 3 (unhide HG) (i64s ms) (unhide HM) (fun h0 => ⟨rfl, unhide HPO h0⟩) (unhide HF) (i64s_one ms) W.heap.size W (unhide B1) (Nat.le_refl _) ?_)
  intro w2 hg2 hb2
  have hg3 := unhide hg2
  rw [splice_all _ _ (by rw [unhide HC]; simp [i64s, unhide HN])] at hg3
  have o2 : Ir W.heap.size w2 (.slice (some ⟨W.heap.size, 0, none⟩) n n) ms := ⟨by simp [i64s], Or.inr ⟨W.heap.size, n, _, by rw [unhide HN], Nat.le_refl _, hg3, by rw [unhide HN]; exact Nat.le_refl _, by unfold maxLen; omega, by simp [i64s, unhide HN], by rw [Nat.mul_one, List.take_of_length_le (by simp [i64s])]⟩⟩
  have y0 := Below.stay hb2 (unhide X0)
  have y1 := Below.stay hb2 (unhide X1)
  have by2 := below_far (unhide BW) hb2
  have c3 : w2.cell? ⟨w.heap.size, 3, none⟩ = some (.slice xo xn xc) := (cell_of_block y0).trans rfl
  have c4 : w2.cell? ⟨w.heap.size, 4, none⟩ = some (.slice mo n cap) := (cell_of_block y0).trans rfl
  have fc : ∀ i, w2.frozen? ⟨w.heap.size, i, none⟩ = false := fun i => free_of_block y0
  obtain ⟨V, hV⟩ : ∃ V, (w2.setCell ⟨w.heap.size, 3, none⟩ (.slice none 0 0)).setCell ⟨w.heap.size, 4, none⟩ (.slice (some ⟨W.heap.size, 0, none⟩) n n) = V := ⟨_, rfl⟩
  have hkV : ∀ k, k ≠ w.heap.size → V.heap[k]? = w2.heap[k]? := fun k hk => by rw [← hV, Below.heap_setCell _ _ _ k hk, Below.heap_setCell _ _ _ k hk]
  have v0 : V.heap[w.heap.size]? = some (.cells #[.int .i64 gn, .int .i64 ge, .int .i64 gb, .slice none 0 0, .slice (some ⟨W.heap.size, 0, none⟩) n n] 32 (0, 0)) := by rw [← hV]; exact setCell_block (setCell_block y0)
  have v1 := (hkV (w.heap.size + 1) (by omega)).trans y1
  have bV : Below w.heap.size w V := by rw [← hV]; exact (by2.setCell (p := ⟨w.heap.size, 3, none⟩) (Nat.le_refl _) _).setCell (p := ⟨w.heap.size, 4, none⟩) (Nat.le_refl _) _
  have oV := o2.other hkV y0 (by decide)
  have d0 : V.cell? ⟨w.heap.size, 0, none⟩ = some (.int .i64 gn) := (cell_of_block v0).trans rfl
  have d1 : V.cell? ⟨w.heap.size, 1, none⟩ = some (.int .i64 ge) := (cell_of_block v0).trans rfl
  have d2 : V.cell? ⟨w.heap.size, 2, none⟩ = some (.int .i64 gb) := (cell_of_block v0).trans rfl
  have d3 : V.cell? ⟨w.heap.size, 3, none⟩ = some (.slice none 0 0) := (cell_of_block v0).trans rfl
  have d4 : V.cell? ⟨w.heap.size, 4, none⟩ = some (.slice (some ⟨W.heap.size, 0, none⟩) n n) := (cell_of_block v0).trans rfl
  have z0 : V.cell? ⟨w.heap.size + 1, 0, none⟩ = some (.int .i64 0) := (cell_of_block v1).trans rfl
  have z1 : V.cell? ⟨w.heap.size + 1, 1, none⟩ = some (.int .i64 0) := (cell_of_block v1).trans rfl
  have z2 : V.cell? ⟨w.heap.size + 1, 2, none⟩ = some (.int .i64 0) := (cell_of_block v1).trans rfl
  have z3 : V.cell? ⟨w.heap.size + 1, 3, none⟩ = some (.slice none 0 0) := (cell_of_block v1).trans rfl
  have z4 : V.cell? ⟨w.heap.size + 1, 4, none⟩ = some (.slice none 0 0) := (cell_of_block v1).trans rfl
  have fz : ∀ i, V.frozen? ⟨w.heap.size + 1, i, none⟩ = false := fun i => free_of_block v1
  have V1 := hide v1
  have BV := hide bV
  have OV := hide oV
  have HV := hide hV
  have SW := hide (unhide BW).size
  clear hg2 hg3 hb2 o2 y0 y1 by2 v0 v1 bV oV hV hkV HG HC B1 HM HF HPO a4' X0 X1 HB HW
  go_upto_region 4 with fail
  rw [unhide HV]
  clear c3 c4 fc
  go_wp2
  obtain ⟨U, hU⟩ : ∃ U : World, U = (((((V.setCell ⟨w.heap.size + 1, 0, none⟩ (.int .i64 gn)).setCell ⟨w.heap.size + 1, 1, none⟩ (.int .i64 ge)).setCell ⟨w.heap.size + 1, 2, none⟩ (.int .i64 gb)).setCell ⟨w.heap.size + 1, 3, none⟩ (.slice none 0 0)).setCell ⟨w.heap.size + 1, 4, none⟩ (.slice (some ⟨W.heap.size, 0, none⟩) n n)) := ⟨_, rfl⟩
  rw [← hU]
  obtain ⟨hh, bU, kU⟩ := five_end (unhide V1) (Nat.le_succ _) (unhide BV) U hU
  have e0 : U.cell? ⟨w.heap.size + 1, 0, none⟩ = some (.int .i64 gn) := (cell_of_block hh).trans rfl
  have e1 : U.cell? ⟨w.heap.size + 1, 1, none⟩ = some (.int .i64 ge) := (cell_of_block hh).trans rfl
  have e2 : U.cell? ⟨w.heap.size + 1, 2, none⟩ = some (.int .i64 gb) := (cell_of_block hh).trans rfl
  have e3 : U.cell? ⟨w.heap.size + 1, 3, none⟩ = some (.slice none 0 0) := (cell_of_block hh).trans rfl
  have e4 : U.cell? ⟨w.heap.size + 1, 4, none⟩ = some (.slice (some ⟨W.heap.size, 0, none⟩) n n) := (cell_of_block hh).trans rfl
  refine bodyPost_ret (v := .agg #[.int .i64 gn, .int .i64 ge, .int .i64 gb, .slice none 0 0, .slice (some ⟨W.heap.size, 0, none⟩) n n]) (by simp [results, Try.results23, go_sem, e0, e1, e2, e3, e4]) rfl ⟨_, rfl, ?_, bU⟩
  exact ((unhide OV).other kU (unhide V1) (by decide)).more (unhide SW)
end Go.Proofs.Ytgllokinadjiaaa

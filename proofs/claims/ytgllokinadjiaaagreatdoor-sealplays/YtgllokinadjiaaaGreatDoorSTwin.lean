/- seal.twin: a contract. seal: last, Now, All, Fence: contracts. errors.Is at none, at numbers and at a refusal around one; seal.number: contracts. -/
import Derived.Test.YtgllokinadjiaaaGreatDoorNBase
import Derived.Laws.CopyOwn
import Derived.LaidEql
namespace Go.Proofs.YtgllokinadjiaaaGreatDoor
open Go.RowKit Go.Maps

theorem Tryz.sizeI : (Tryz.prog.info? 3).map (·.size) = some 1 := by kernel_rfl
theorem splice_all {α : Type} (L cs : List α) (h : L.length = cs.length) : splice L 0 cs = cs := by
  unfold splice
  simp [h]
set_option maxRecDepth 20000 in
set_option maxHeartbeats 2000000 in
theorem setwin_any (g : Gn) (xo : Option Addr) (xn xc : Nat) (mo : Option Addr) (n cap : Nat) (hn : g.ms.length = n) (hl : n ≤ 1000000) (w : World) (hb : IntsR w mo g.ms) :
    Calls Tryz.prog 36 #[.agg #[.int .i64 g.n, .int .i64 g.eng, .int .i64 g.base, .slice xo xn xc, .slice mo n cap]] w fun x w' =>
      ∃ b, x = .returned (.agg #[.int .i64 g.n, .int .i64 g.eng, .int .i64 g.base, .slice none 0 0, .slice (some ⟨b, 0, none⟩) n n]) ∧ Ir w.heap.size w' (.slice (some ⟨b, 0, none⟩) n n) g.ms ∧ Below w.heap.size w w' := by
  obtain ⟨gn, ge, gb, ms⟩ := g
  simp only at hb hn ⊢
  obtain ⟨i0, hi, hz0, hz1, hz2⟩ := info_parts Tryz.infoI
  obtain ⟨W0, hW0⟩ : ∃ W, w.alloc (.cells #[.int .i64 gn, .int .i64 ge, .int .i64 gb, .slice xo xn xc, .slice mo n cap] 26) = W := ⟨_, rfl⟩
  obtain ⟨W, hW⟩ : ∃ W, W0.alloc (.cells #[.int .i64 0, .int .i64 0, .int .i64 0, .slice none 0 0, .slice none 0 0] 26) = W := ⟨_, rfl⟩
  have s0 : W0.heap.size = w.heap.size + 1 := by rw [← hW0]; simp
  have b0 : Below w.heap.size w W0 := by rw [← hW0]; exact (Below.refl _ w).alloc (Nat.le_refl _) _
  have b1 : Below W0.heap.size W0 W := by rw [← hW]; exact (Below.refl _ W0).alloc (Nat.le_refl _) _
  have bW := below_far b0 b1
  have x0 : W.heap[w.heap.size]? = some (.cells #[.int .i64 gn, .int .i64 ge, .int .i64 gb, .slice xo xn xc, .slice mo n cap] 26 (0, 0)) := Below.stay b1 (by rw [← hW0]; exact box_at _ _)
  have x1 : W.heap[w.heap.size + 1]? = some (.cells #[.int .i64 0, .int .i64 0, .int .i64 0, .slice none 0 0, .slice none 0 0] 26 (0, 0)) := by rw [← s0, ← hW]; exact box_at _ _
  have HW : Hid ((w.alloc (.cells #[.int .i64 gn, .int .i64 ge, .int .i64 gb, .slice xo xn xc, .slice mo n cap] 26)).alloc (.cells #[.int .i64 0, .int .i64 0, .int .i64 0, .slice none 0 0, .slice none 0 0] 26) = W) := by rw [hW0]; exact hW
  have a4 : W.cell? ⟨w.heap.size, 4, none⟩ = some (.slice mo n cap) := (cell_of_block x0).trans rfl
  have BW := hide bW
  have X0 := hide x0
  have X1 := hide x1
  have HB := hide (hb.below bW)
  have HN := hide hn
  clear hW hW0 s0 b0 b1 bW x0 x1 hb hn
  go_enter Tryz.func36, Tryz.ntmps36
  go_upto_region 1 with fail
  rw [unhide HW]
  go_wp2_with (at_make; refine wpList_make_full _ rfl _ _ 22 rfl W.heap.size 3 i0 (.int .i64 0) 1 Tryz.underlying22 hi hz0 hz1 .i64 .i64 _ _ n rfl rfl rfl rfl (by rw [hz2]; omega) (by unfold maxLen; omega) (Nat.le_refl _) ?_)
  intro w1 hown1 hgrow1
  obtain ⟨cur, hg, hcs⟩ : ∃ cur : Array Value, w1.heap[W.heap.size]? = some (.cells cur.toList.toArray 3 (0, 0)) ∧ cur.toList.length = n := by
    rcases hown1.2 with ⟨h, _⟩ | ⟨g, cap, cur, hv, _, hh, _, _, hc, _⟩
    · cases h
    · cases hv
      exact ⟨cur, by simpa using hh, by simpa using hc⟩
  have b1 : Below W.heap.size W w1 := (Below.refl _ _).grown hgrow1 (Nat.le_refl _) (fun k hk => by cases hk)
  have hmin : (i64s ms).length = Nat.min n n := by rw [show Nat.min n n = n from Nat.min_self n]; simp [i64s, unhide HN]
  have hfit : 0 + (i64s ms).length ≤ cur.toList.length := by rw [hcs]; simp [i64s, unhide HN]
  have hpos : 0 < (i64s ms).length → ∃ ad, mo = some ad ∧ ∀ j v, (i64s ms)[j]? = some v → w1.cell? (ad.add j) = some v := by
    intro h0
    cases mo with
    | none => have e := (unhide HB).none_nil; subst e; simp [i64s] at h0
    | some a =>
      refine ⟨a, rfl, fun j u hj => ?_⟩
      rw [i64s, List.getElem?_map] at hj
      cases hq : ms[j]? with
      | none => rw [hq] at hj; simp at hj
      | some y =>
        rw [hq] at hj; simp at hj; subst hj
        obtain ⟨a', e, hcell⟩ := ((unhide HB).below b1) j (List.getElem?_eq_some_iff.1 hq).1
        cases e
        rw [hcell, List.getD_eq_getElem?_getD, hq]; rfl
  have a4' : w1.cell? ⟨w.heap.size, 4, none⟩ = some (.slice mo n cap) := (cell_of_block (Below.stay b1 (unhide X0))).trans rfl
  have HG := hide hg
  have HC := hide hcs
  have B1 := hide b1
  have HM := hide hmin
  have HF := hide hfit
  have HPO := hide hpos
  clear hg hcs b1 hown1 hgrow1 hmin hfit hpos a4
  go_wp2_with (refine wpList_copy_splice rfl (.tmp 9) (.tmp 12) 22 22 rfl 3 Tryz.underlying22 Tryz.sizeI _ _ _ _ _ _ rfl rfl W.heap.size 0 cur.toList 3 (unhide HG) (i64s ms) (unhide HM) (fun h0 => ⟨rfl, unhide HPO h0⟩) (unhide HF) (i64s_one ms) W.heap.size W (unhide B1) (Nat.le_refl _) ?_)
  intro w2 hg2 hb2
  have hg3 := unhide hg2
  rw [splice_all _ _ (by rw [unhide HC]; simp [i64s, unhide HN])] at hg3
  have o2 : Ir W.heap.size w2 (.slice (some ⟨W.heap.size, 0, none⟩) n n) ms := ⟨by simp [i64s], Or.inr ⟨W.heap.size, n, _, by rw [unhide HN], Nat.le_refl _, hg3, by rw [unhide HN]; exact Nat.le_refl _, by unfold maxLen; omega, by simp [i64s, unhide HN], by rw [Nat.mul_one, List.take_of_length_le (by simp [i64s])]⟩⟩
  have y0 := Below.stay hb2 (unhide X0)
  have y1 := Below.stay hb2 (unhide X1)
  have by2 := below_far (unhide BW) hb2
  have c3 : w2.cell? ⟨w.heap.size, 3, none⟩ = some (.slice xo xn xc) := (cell_of_block y0).trans rfl
  have c4 : w2.cell? ⟨w.heap.size, 4, none⟩ = some (.slice mo n cap) := (cell_of_block y0).trans rfl
  have fc : ∀ i, w2.frozen? ⟨w.heap.size, i, none⟩ = false := fun i => free_of_block y0
  obtain ⟨V, hV⟩ : ∃ V, (w2.setCell ⟨w.heap.size, 3, none⟩ (.slice none 0 0)).setCell ⟨w.heap.size, 4, none⟩ (.slice (some ⟨W.heap.size, 0, none⟩) n n) = V := ⟨_, rfl⟩
  have hkV : ∀ k, k ≠ w.heap.size → V.heap[k]? = w2.heap[k]? := fun k hk => by rw [← hV, Below.heap_setCell _ _ _ k hk, Below.heap_setCell _ _ _ k hk]
  have v0 : V.heap[w.heap.size]? = some (.cells #[.int .i64 gn, .int .i64 ge, .int .i64 gb, .slice none 0 0, .slice (some ⟨W.heap.size, 0, none⟩) n n] 26 (0, 0)) := by rw [← hV]; exact setCell_block (setCell_block y0)
  have v1 := (hkV (w.heap.size + 1) (by omega)).trans y1
  have bV : Below w.heap.size w V := by rw [← hV]; exact (by2.setCell (p := ⟨w.heap.size, 3, none⟩) (Nat.le_refl _) _).setCell (p := ⟨w.heap.size, 4, none⟩) (Nat.le_refl _) _
  have oV := o2.other hkV y0 (by decide)
  have d0 : V.cell? ⟨w.heap.size, 0, none⟩ = some (.int .i64 gn) := (cell_of_block v0).trans rfl
  have d1 : V.cell? ⟨w.heap.size, 1, none⟩ = some (.int .i64 ge) := (cell_of_block v0).trans rfl
  have d2 : V.cell? ⟨w.heap.size, 2, none⟩ = some (.int .i64 gb) := (cell_of_block v0).trans rfl
  have d3 : V.cell? ⟨w.heap.size, 3, none⟩ = some (.slice none 0 0) := (cell_of_block v0).trans rfl
  have d4 : V.cell? ⟨w.heap.size, 4, none⟩ = some (.slice (some ⟨W.heap.size, 0, none⟩) n n) := (cell_of_block v0).trans rfl
  have z0 : V.cell? ⟨w.heap.size + 1, 0, none⟩ = some (.int .i64 0) := (cell_of_block v1).trans rfl
  have z1 : V.cell? ⟨w.heap.size + 1, 1, none⟩ = some (.int .i64 0) := (cell_of_block v1).trans rfl
  have z2 : V.cell? ⟨w.heap.size + 1, 2, none⟩ = some (.int .i64 0) := (cell_of_block v1).trans rfl
  have z3 : V.cell? ⟨w.heap.size + 1, 3, none⟩ = some (.slice none 0 0) := (cell_of_block v1).trans rfl
  have z4 : V.cell? ⟨w.heap.size + 1, 4, none⟩ = some (.slice none 0 0) := (cell_of_block v1).trans rfl
  have fz : ∀ i, V.frozen? ⟨w.heap.size + 1, i, none⟩ = false := fun i => free_of_block v1
  have V1 := hide v1
  have BV := hide bV
  have OV := hide oV
  have HV := hide hV
  have SW := hide (unhide BW).size
  clear hg2 hg3 hb2 o2 y0 y1 by2 v0 v1 bV oV hV hkV HG HC B1 HM HF HPO a4' X0 X1 HB HW
  go_upto_region 4 with fail
  rw [unhide HV]
  clear c3 c4 fc
  go_wp2
  obtain ⟨U, hU⟩ : ∃ U : World, U = (((((V.setCell ⟨w.heap.size + 1, 0, none⟩ (.int .i64 gn)).setCell ⟨w.heap.size + 1, 1, none⟩ (.int .i64 ge)).setCell ⟨w.heap.size + 1, 2, none⟩ (.int .i64 gb)).setCell ⟨w.heap.size + 1, 3, none⟩ (.slice none 0 0)).setCell ⟨w.heap.size + 1, 4, none⟩ (.slice (some ⟨W.heap.size, 0, none⟩) n n)) := ⟨_, rfl⟩
  rw [← hU]
  obtain ⟨hh, bU, kU⟩ := five_end (unhide V1) (Nat.le_succ _) (unhide BV) U hU
  have e0 : U.cell? ⟨w.heap.size + 1, 0, none⟩ = some (.int .i64 gn) := (cell_of_block hh).trans rfl
  have e1 : U.cell? ⟨w.heap.size + 1, 1, none⟩ = some (.int .i64 ge) := (cell_of_block hh).trans rfl
  have e2 : U.cell? ⟨w.heap.size + 1, 2, none⟩ = some (.int .i64 gb) := (cell_of_block hh).trans rfl
  have e3 : U.cell? ⟨w.heap.size + 1, 3, none⟩ = some (.slice none 0 0) := (cell_of_block hh).trans rfl
  have e4 : U.cell? ⟨w.heap.size + 1, 4, none⟩ = some (.slice (some ⟨W.heap.size, 0, none⟩) n n) := (cell_of_block hh).trans rfl
  refine bodyPost_ret (v := .agg #[.int .i64 gn, .int .i64 ge, .int .i64 gb, .slice none 0 0, .slice (some ⟨W.heap.size, 0, none⟩) n n]) (by simp [results, Tryz.results36, go_sem, e0, e1, e2, e3, e4]) rfl ⟨_, rfl, ?_, bU⟩
  exact ((unhide OV).other kU (unhide V1) (by decide)).more (unhide SW)
end Go.Proofs.YtgllokinadjiaaaGreatDoor
namespace Go.Proofs.YtgllokinadjiaaaGreatDoor
open Go.RowKit Go.Maps
attribute [local go_sem ↓] Go.wp_at_zero Go.wp_at_succ

theorem set5 {w y : World} {B : Nat} {v0 v1 v2 v3 v4 : Value} (hb : Below w.heap.size w y) (hB : w.heap.size ≤ B) : Below w.heap.size w (((((y.setCell ⟨B, 0, none⟩ v0).setCell ⟨B, 1, none⟩ v1).setCell ⟨B, 2, none⟩ v2).setCell ⟨B, 3, none⟩ v3).setCell ⟨B, 4, none⟩ v4) :=
  ((((hb.setCell (p := ⟨B, 0, none⟩) hB _).setCell (p := ⟨B, 1, none⟩) hB _).setCell (p := ⟨B, 2, none⟩) hB _).setCell (p := ⟨B, 3, none⟩) hB _).setCell (p := ⟨B, 4, none⟩) hB _
/-- a generation as it stands in a row. -/
def Stored (D : Nat → Prop) (w : World) (g : Gn) (mo : Option Addr) (mc : Nat) : Prop := Ir 0 w (.slice mo g.ms.length mc) g.ms ∧ (∀ k, (Value.slice mo g.ms.length mc).ownBlock = some k → D k) ∧ g.ms.length ≤ 1000000
def gnV (g : Gn) (mo : Option Addr) (mc : Nat) : Value := .agg #[.int .i64 g.n, .int .i64 g.eng, .int .i64 g.base, .slice none 0 0, .slice mo g.ms.length mc]
set_option maxRecDepth 20000 in
set_option maxHeartbeats 2000000 in
theorem last_core {w : World} {p b n m ca z : Nat} {mo : Option Addr} {mc : Nat} (hm : n = m + 1) (hl : n ≤ 1000000) (gn ge gb : Int) (pc : w.cell? ⟨p, 0, none⟩ = some (.slice (some ⟨b, 0, none⟩) n ca))
    (c0 : w.cell? ⟨b, m * 5, none⟩ = some (.int .i64 gn)) (c1 : w.cell? ⟨b, m * 5 + 1, none⟩ = some (.int .i64 ge)) (c2 : w.cell? ⟨b, m * 5 + 2, none⟩ = some (.int .i64 gb)) (c3 : w.cell? ⟨b, m * 5 + 3, none⟩ = some (.slice none 0 0)) (c4 : w.cell? ⟨b, m * 5 + 4, none⟩ = some (.slice mo z mc)) :
    Calls Tryz.prog 34 #[.pointer (some ⟨p, 0, none⟩)] w fun e w' => e = .returned (.agg #[.int .i64 gn, .int .i64 ge, .int .i64 gb, .slice none 0 0, .slice mo z mc]) ∧ Below w.heap.size w w' := by
  obtain ⟨W, hW⟩ : ∃ W, w.alloc (.cells #[.int .i64 0, .int .i64 0, .int .i64 0, .slice none 0 0, .slice none 0 0] 26) = W := ⟨_, rfl⟩
  have bW : Below w.heap.size w W := by rw [← hW]; exact (Below.refl _ w).alloc (Nat.le_refl _) _
  have xW : W.heap[w.heap.size]? = some (.cells #[.int .i64 0, .int .i64 0, .int .i64 0, .slice none 0 0, .slice none 0 0] 26 (0, 0)) := by rw [← hW]; exact box_at _ _
  have SX : Hid (∀ Y, Below w.heap.size w Y → (Y.cell? ⟨p, 0, none⟩ = some (.slice (some ⟨b, 0, none⟩) n ca) ∧ Y.cell? ⟨b, m * 5, none⟩ = some (.int .i64 gn) ∧ Y.cell? ⟨b, m * 5 + 1, none⟩ = some (.int .i64 ge) ∧ Y.cell? ⟨b, m * 5 + 2, none⟩ = some (.int .i64 gb) ∧ Y.cell? ⟨b, m * 5 + 3, none⟩ = some (.slice none 0 0) ∧ Y.cell? ⟨b, m * 5 + 4, none⟩ = some (.slice mo z mc))) := hide (fun Y hY =>
    ⟨(hY.cell (blk_lt pc)).trans pc, (hY.cell (blk_lt c0)).trans c0, (hY.cell (blk_lt c1)).trans c1, (hY.cell (blk_lt c2)).trans c2, (hY.cell (blk_lt c3)).trans c3, (hY.cell (blk_lt c4)).trans c4⟩)
  have z0 : W.drew.cell? ⟨w.heap.size, 0, none⟩ = some (.int .i64 0) := (cell_of_block (w := W.drew) xW).trans rfl
  have z0' : W.cell? ⟨w.heap.size, 0, none⟩ = some (.int .i64 0) := (cell_of_block (w := W) xW).trans rfl
  have z1 : W.drew.cell? ⟨w.heap.size, 1, none⟩ = some (.int .i64 0) := (cell_of_block (w := W.drew) xW).trans rfl
  have z1' : W.cell? ⟨w.heap.size, 1, none⟩ = some (.int .i64 0) := (cell_of_block (w := W) xW).trans rfl
  have z2 : W.drew.cell? ⟨w.heap.size, 2, none⟩ = some (.int .i64 0) := (cell_of_block (w := W.drew) xW).trans rfl
  have z2' : W.cell? ⟨w.heap.size, 2, none⟩ = some (.int .i64 0) := (cell_of_block (w := W) xW).trans rfl
  have z3 : W.drew.cell? ⟨w.heap.size, 3, none⟩ = some (.slice none 0 0) := (cell_of_block (w := W.drew) xW).trans rfl
  have z3' : W.cell? ⟨w.heap.size, 3, none⟩ = some (.slice none 0 0) := (cell_of_block (w := W) xW).trans rfl
  have z4 : W.drew.cell? ⟨w.heap.size, 4, none⟩ = some (.slice none 0 0) := (cell_of_block (w := W.drew) xW).trans rfl
  have z4' : W.cell? ⟨w.heap.size, 4, none⟩ = some (.slice none 0 0) := (cell_of_block (w := W) xW).trans rfl
  have fz : ∀ i, W.drew.frozen? ⟨w.heap.size, i, none⟩ = false := fun i => free_of_block (w := W.drew) xW
  have fz' : ∀ i, W.frozen? ⟨w.heap.size, i, none⟩ = false := fun i => free_of_block (w := W) xW
  have q1 : (m : Int) < (n : Int) := by omega
  have hs1 : IntKind.i64.wrap ((n : Int) - 1) = (m : Int) := by rw [show (n : Int) - 1 = (m : Int) by omega]; exact IntWalk.i64_in _ (by omega)
  have q0 : (0 : Int) ≤ (m : Int) := by omega
  have EZ := hide bW
  have XW := hide xW
  have HW := hide hW
  clear hm hW xW bW pc c0 c1 c2 c3 c4
  go_enter Tryz.func34, Tryz.ntmps34
  go_upto_region 1 with fail
  rw [unhide HW]
  clear HW
  go_region_held3 (fun Y => Y.cell? ⟨p, 0, none⟩ = some (.slice (some ⟨b, 0, none⟩) n ca) ∧ Y.cell? ⟨b, m * 5, none⟩ = some (.int .i64 gn) ∧ Y.cell? ⟨b, m * 5 + 1, none⟩ = some (.int .i64 ge) ∧ Y.cell? ⟨b, m * 5 + 2, none⟩ = some (.int .i64 gb) ∧ Y.cell? ⟨b, m * 5 + 3, none⟩ = some (.slice none 0 0) ∧ Y.cell? ⟨b, m * 5 + 4, none⟩ = some (.slice mo z mc)) (first | with_reducible exact unhide SX _ (unhide EZ) | with_reducible exact unhide SX _ (unhide EZ).drew | with_reducible exact unhide SX _ (set5 (unhide EZ) (Nat.le_refl _)) | with_reducible exact unhide SX _ (set5 (unhide EZ).drew (Nat.le_refl _)) | with_reducible exact unhide SX _ (set5 (unhide EZ) (Nat.le_refl _)).drew | with_reducible exact unhide SX _ (set5 (unhide EZ).drew (Nat.le_refl _)).drew | fail) (fail)
  go_wp2
  obtain ⟨U, hU⟩ : ∃ U : World, U = (((((W.setCell ⟨w.heap.size, 0, none⟩ (.int .i64 gn)).setCell ⟨w.heap.size, 1, none⟩ (.int .i64 ge)).setCell ⟨w.heap.size, 2, none⟩ (.int .i64 gb)).setCell ⟨w.heap.size, 3, none⟩ (.slice none 0 0)).setCell ⟨w.heap.size, 4, none⟩ (.slice mo z mc)) := ⟨_, rfl⟩
  rw [← hU]
  obtain ⟨hh, bU, kU⟩ := five_end (unhide XW) (Nat.le_refl _) (unhide EZ) U hU
  have e0 : U.drew.cell? ⟨w.heap.size, 0, none⟩ = some (.int .i64 gn) := (cell_of_block (w := U.drew) hh).trans rfl
  have e1 : U.drew.cell? ⟨w.heap.size, 1, none⟩ = some (.int .i64 ge) := (cell_of_block (w := U.drew) hh).trans rfl
  have e2 : U.drew.cell? ⟨w.heap.size, 2, none⟩ = some (.int .i64 gb) := (cell_of_block (w := U.drew) hh).trans rfl
  have e3 : U.drew.cell? ⟨w.heap.size, 3, none⟩ = some (.slice none 0 0) := (cell_of_block (w := U.drew) hh).trans rfl
  have e4 : U.drew.cell? ⟨w.heap.size, 4, none⟩ = some (.slice mo z mc) := (cell_of_block (w := U.drew) hh).trans rfl
  refine bodyPost_ret (v := .agg #[.int .i64 gn, .int .i64 ge, .int .i64 gb, .slice none 0 0, .slice mo z mc]) (by simp [results, Tryz.results34, go_sem, e0, e1, e2, e3, e4]) rfl ⟨rfl, bU.drew⟩


theorem last_all {D : Nat → Prop} {w : World} {p : Nat} {gs : List Gn} (h : Gs D w p gs) (hl : gs.length ≤ 1000000) {g : Gn} (hg : gs[gs.length - 1]? = some g) :
    ∃ mo mc, Stored D w g mo mc ∧ ∀ Y, Below w.heap.size w Y → Calls Tryz.prog 34 #[.pointer (some ⟨p, 0, none⟩)] Y fun e w' => e = .returned (gnV g mo mc) ∧ Below Y.heap.size Y w' := by
  obtain ⟨⟨rv, hbx, hrr⟩, hDp, hlt⟩ := h
  obtain ⟨ao, ca, rfl, -⟩ := hrr.slice
  obtain ⟨b, mo, mc, rfl, hDb, c0, c1, c2, c3, c4, o4, d4, l4⟩ := hrr.at hg
  refine ⟨mo, mc, ⟨o4, d4, l4⟩, fun Y hY => ?_⟩
  have hn0 : 0 < gs.length := by have := (List.getElem?_eq_some_iff.1 hg).1; omega
  have pc : w.cell? ⟨p, 0, none⟩ = some (.slice (some ⟨b, 0, none⟩) gs.length ca) := (cell_of_block hbx).trans rfl
  exact last_core (m := gs.length - 1) (by omega) hl g.n g.eng g.base ((hY.cell (blk_lt pc)).trans pc) ((hY.cell (blk_lt c0)).trans c0) ((hY.cell (blk_lt c1)).trans c1) ((hY.cell (blk_lt c2)).trans c2) ((hY.cell (blk_lt c3)).trans c3) ((hY.cell (blk_lt c4)).trans c4)
theorem last_any {D : Nat → Prop} {w : World} {p : Nat} {gs : List Gn} (h : Gs D w p gs) (hl : gs.length ≤ 1000000) {g : Gn} (hg : gs[gs.length - 1]? = some g) :
    ∃ mo mc, Stored D w g mo mc ∧ Calls Tryz.prog 34 #[.pointer (some ⟨p, 0, none⟩)] w fun e w' => e = .returned (gnV g mo mc) ∧ Below w.heap.size w w' := by
  obtain ⟨mo, mc, h1, h2⟩ := last_all h hl hg
  exact ⟨mo, mc, h1, h2 w (Below.refl _ _)⟩
set_option maxRecDepth 20000 in
set_option maxHeartbeats 2000000 in
theorem now_any {D : Nat → Prop} {w : World} {p : Nat} {gs : List Gn} (h : Gs D w p gs) (hl : gs.length ≤ 1000000) {g : Gn} (hg : gs[gs.length - 1]? = some g) :
    Calls Tryz.prog 15 #[.pointer (some ⟨p, 0, none⟩)] w fun e w' => ∃ b, e = .returned (gnV g (some ⟨b, 0, none⟩) g.ms.length) ∧ Ir w.heap.size w' (.slice (some ⟨b, 0, none⟩) g.ms.length g.ms.length) g.ms ∧ Below w.heap.size w w' := by
  obtain ⟨W, hW⟩ : ∃ W, w.alloc (.cells #[.int .i64 0, .int .i64 0, .int .i64 0, .slice none 0 0, .slice none 0 0] 26) = W := ⟨_, rfl⟩
  have bW : Below w.heap.size w W := by rw [← hW]; exact (Below.refl _ w).alloc (Nat.le_refl _) _
  have xW : W.heap[w.heap.size]? = some (.cells #[.int .i64 0, .int .i64 0, .int .i64 0, .slice none 0 0, .slice none 0 0] 26 (0, 0)) := by rw [← hW]; exact box_at _ _
  obtain ⟨mo, mc, ⟨o1, _, l1⟩, CL⟩ := last_any (h.below bW) hl hg
  obtain ⟨ao, ca, e, hfr, -⟩ := o1.slice
  cases e
  have CT := hide (fun (Y : World) (hY : Below W.heap.size W Y) => setwin_any g none 0 0 mo g.ms.length mc rfl l1 Y (hfr.1.below hY))
  have CL' := hide CL
  have XW := hide xW
  have BW := hide bW
  have HW := hide hW
  obtain ⟨gn, ge, gb, ms⟩ := g
  unfold gnV at *
  simp only at CL' CT ⊢
  obtain ⟨z, hz⟩ : ∃ z, ms.length = z := ⟨_, rfl⟩
  rw [hz] at CL' CT ⊢
  clear hW xW bW h hg CL o1 l1 hfr hz
  go_enter Tryz.func15, Tryz.ntmps15
  go_upto_region 1 with fail
  rw [unhide HW]
  go_wp2_with fail
  refine (unhide CL').mono ?_
  rintro e w1 ⟨rfl, b1⟩
  have B1 := hide b1
  have C1 := hide (unhide CT w1 b1)
  clear b1 CL' CT HW
  go_wp2_with fail
  refine (unhide C1).mono ?_
  rintro e w2 ⟨c, rfl, o2, b2⟩
  have B2 := hide (below_far (unhide BW) (below_far (unhide B1) b2))
  have x2 := Below.stay (below_far (unhide B1) b2) (unhide XW)
  have X2 := hide x2
  have O2 := hide (o2.more (Nat.le_trans (unhide BW).size (unhide B1).size))
  have z0 : w2.cell? ⟨w.heap.size, 0, none⟩ = some (.int .i64 0) := (cell_of_block x2).trans rfl
  have z1 : w2.cell? ⟨w.heap.size, 1, none⟩ = some (.int .i64 0) := (cell_of_block x2).trans rfl
  have z2 : w2.cell? ⟨w.heap.size, 2, none⟩ = some (.int .i64 0) := (cell_of_block x2).trans rfl
  have z3 : w2.cell? ⟨w.heap.size, 3, none⟩ = some (.slice none 0 0) := (cell_of_block x2).trans rfl
  have z4 : w2.cell? ⟨w.heap.size, 4, none⟩ = some (.slice none 0 0) := (cell_of_block x2).trans rfl
  have fz : ∀ i, w2.frozen? ⟨w.heap.size, i, none⟩ = false := fun i => free_of_block x2
  clear b2 x2 o2 C1 B1
  go_wp2
  obtain ⟨U, hU⟩ : ∃ U : World, U = (((((w2.setCell ⟨w.heap.size, 0, none⟩ (.int .i64 gn)).setCell ⟨w.heap.size, 1, none⟩ (.int .i64 ge)).setCell ⟨w.heap.size, 2, none⟩ (.int .i64 gb)).setCell ⟨w.heap.size, 3, none⟩ (.slice none 0 0)).setCell ⟨w.heap.size, 4, none⟩ (.slice (some ⟨c, 0, none⟩) z z)) := ⟨_, rfl⟩
  rw [← hU]
  obtain ⟨hh, bU, kU⟩ := five_end (unhide X2) (Nat.le_refl _) (unhide B2) U hU
  have e0 : U.cell? ⟨w.heap.size, 0, none⟩ = some (.int .i64 gn) := (cell_of_block (w := U) hh).trans rfl
  have e1 : U.cell? ⟨w.heap.size, 1, none⟩ = some (.int .i64 ge) := (cell_of_block (w := U) hh).trans rfl
  have e2 : U.cell? ⟨w.heap.size, 2, none⟩ = some (.int .i64 gb) := (cell_of_block (w := U) hh).trans rfl
  have e3 : U.cell? ⟨w.heap.size, 3, none⟩ = some (.slice none 0 0) := (cell_of_block (w := U) hh).trans rfl
  have e4 : U.cell? ⟨w.heap.size, 4, none⟩ = some (.slice (some ⟨c, 0, none⟩) z z) := (cell_of_block (w := U) hh).trans rfl
  refine bodyPost_ret (v := .agg #[.int .i64 gn, .int .i64 ge, .int .i64 gb, .slice none 0 0, .slice (some ⟨c, 0, none⟩) z z]) (by simp [results, Tryz.results15, go_sem, e0, e1, e2, e3, e4]) rfl ⟨_, rfl, (unhide O2).other kU (unhide X2) (by decide), bU⟩

theorem field_n (a b c : Int) (d e : Value) (W : World) : (Instr.field 26 (.agg #[.int .i64 a, .int .i64 b, .int .i64 c, d, e]) 0).run Tryz.prog W = .ok (.int .i64 a) W := by kernel_rfl
theorem field_base (a b c : Int) (d e : Value) (W : World) : (Instr.field 26 (.agg #[.int .i64 a, .int .i64 b, .int .i64 c, d, e]) 2).run Tryz.prog W = .ok (.int .i64 c) W := by kernel_rfl
set_option maxRecDepth 20000 in
set_option maxHeartbeats 1000000 in
theorem fence_any {D : Nat → Prop} {w : World} {p : Nat} {gs : List Gn} (h : Gs D w p gs) (hl : gs.length ≤ 1000000) {g : Gn} (hg : gs[gs.length - 1]? = some g) (a : Int) :
    Calls Tryz.prog 20 #[.pointer (some ⟨p, 0, none⟩), .int .i64 a] w fun e w' => e = .returned (.int .i64 (if a < g.n then 18 else if g.n < a then 2 else 0)) ∧ Below w.heap.size w w' := by
  obtain ⟨mo, mc, _, CL⟩ := last_any h hl hg
  have CL' := hide CL
  have FN := field_n
  obtain ⟨gn, ge, gb, ms⟩ := g
  unfold gnV at CL'
  simp only at CL' ⊢
  clear h hg CL
  by_cases h1 : a < gn
  · rw [if_pos h1]
    go_enter Tryz.func20, Tryz.ntmps20
    go_wp2_with fail
    refine (unhide CL').mono ?_
    rintro e w1 ⟨rfl, b1⟩
    have B1 := hide b1
    clear b1 CL'
    go_wp2
    go_ret
    exact ⟨rfl, unhide B1⟩
  · rw [if_neg h1]
    by_cases h2 : gn < a
    · rw [if_pos h2]
      go_enter Tryz.func20, Tryz.ntmps20
      go_wp2_with fail
      refine (unhide CL').mono ?_
      rintro e w1 ⟨rfl, b1⟩
      have B1 := hide b1
      clear b1 CL'
      go_wp2
      go_ret
      exact ⟨rfl, unhide B1⟩
    · rw [if_neg h2]
      go_enter Tryz.func20, Tryz.ntmps20
      go_wp2_with fail
      refine (unhide CL').mono ?_
      rintro e w1 ⟨rfl, b1⟩
      have B1 := hide b1
      clear b1 CL'
      go_wp2
      go_ret
      exact ⟨rfl, unhide B1⟩
end Go.Proofs.YtgllokinadjiaaaGreatDoor
namespace Go.Proofs.YtgllokinadjiaaaGreatDoor
open Go.RowKit Go.Extern.Stop Go.Stop Go.Extern

theorem Tryz.methodComparable (h : Value) (w : World) : (Go.method 303 123 (.agg #[h]) "Comparable").run Tryz.prog w = .ok (119, .agg #[h]) w := by kernel_rfl
theorem Tryz.methodUnwrapR (h : Value) (w : World) : (Go.method 303 93 h "Unwrap").run Tryz.prog w = .ok (112, h) w := by kernel_rfl
theorem Tryz.typeOfNum (v : Value) (w : World) : (ReflectliteType.typeOf #[.iface 31 v]).run Tryz.prog w = .ok (.iface 123 (.agg #[.pointer (some ⟨1, 31, none⟩)])) w := by kernel_rfl
theorem Tryz.noIsNum (v : Value) (xT : TypeId) (w : World) : (Instr.typeAssert (.iface 31 v) xT 125 true).run Tryz.prog w = .ok (.tuple #[.nilIface, .bool false]) w := run_typeAssert_lacksB Tryz.underlying125 (by kernel_rfl) (by kernel_rfl) v xT w
theorem Tryz.noUnNum (v : Value) (xT : TypeId) (w : World) : (Instr.typeAssert (.iface 31 v) xT 128 true).run Tryz.prog w = .ok (.tuple #[.nilIface, .bool false]) w := run_typeAssert_lacksB Tryz.underlying128 (by kernel_rfl) (by kernel_rfl) v xT w
theorem Tryz.noUnsNum (v : Value) (xT : TypeId) (w : World) : (Instr.typeAssert (.iface 31 v) xT 130 true).run Tryz.prog w = .ok (.tuple #[.nilIface, .bool false]) w := run_typeAssert_lacksB Tryz.underlying130 (by kernel_rfl) (by kernel_rfl) v xT w
theorem Tryz.noIsR (v : Value) (xT : TypeId) (w : World) : (Instr.typeAssert (.iface 93 v) xT 125 true).run Tryz.prog w = .ok (.tuple #[.nilIface, .bool false]) w := run_typeAssert_lacksB Tryz.underlying125 (by kernel_rfl) (by kernel_rfl) v xT w
theorem Tryz.hasUnR (v : Value) (xT : TypeId) (w : World) : (Instr.typeAssert (.iface 93 v) xT 128 true).run Tryz.prog w = .ok (.tuple #[.iface 93 v, .bool true]) w := run_typeAssert_hasB Tryz.underlying128 (by kernel_rfl) v xT w

section
variable {P : Program} (w : World)
theorem run_equalIn_num (d : Nat) {ti tn : TypeId} {ms : Array (String × TypeId)} {i : TypeInfo} {k : IntKind} (a b : Int)
    (hi : P.underlying ti = some (.interface ms)) (hn : P.underlying tn = some (.int k)) (hinfo : P.info? tn = some i) (hcomp : i.comparable = true) :
    (Op.equalIn (d + 2) ti (.iface tn (.int k a)) (.iface tn (.int k b))).run P w = .ok (a == b) w := by
  simp [Op.equalIn, run_underlying hi, run_underlying hn, typeInfo, hinfo, hcomp]
theorem run_eql_num {ti tn : TypeId} {ms : Array (String × TypeId)} {i : TypeInfo} {k : IntKind} (a b : Int)
    (hi : P.underlying ti = some (.interface ms)) (hn : P.underlying tn = some (.int k)) (hinfo : P.info? tn = some i) (hcomp : i.comparable = true) :
    (binOp .eql ti (.iface tn (.int k a)) (.iface tn (.int k b))).run P w = .ok (.bool (a == b)) w := by
  simp only [binOp]
  simp [Op.equal, Op.maxDepth, run_equalIn_num w 9998 a b hi hn hinfo hcomp]
end
theorem Tryz.compNum : (Tryz.prog.info? 31).map (·.comparable) = some true := by kernel_rfl
theorem eqlNum (a b : Int) (w : World) : (binOp .eql 62 (.iface 31 (.int .i64 a)) (.iface 31 (.int .i64 b))).run Tryz.prog w = .ok (.bool (a == b)) w := by
  obtain ⟨i, hi, hcmp⟩ := Option.map_eq_some_iff.1 Tryz.compNum
  exact run_eql_num w a b Tryz.underlying62 Tryz.underlying31 hi hcmp
theorem eqlRN (x y : Value) (w : World) : (binOp .eql 62 (.iface 93 x) (.iface 31 y)).run Tryz.prog w = .ok (.bool false) w :=
  run_eql_iface_types (P := Tryz.prog) 93 31 x y Tryz.underlying62 (by decide) w

/-- a refusal around a number. -/
def Ref (w : World) (b : Nat) (c : Int) : Prop := ∃ x, w.heap[b]? = some (.cells #[.int .i64 x, .iface 31 (.int .i64 c)] 95 (0, 0))
def refV (b : Nat) : Value := .iface 93 (.pointer (some ⟨b, 0, none⟩))

set_option maxHeartbeats 400000 in
theorem is_ref_num (n m : Int) (b : Nat) (w : World) (h : Ref w b n) : Calls Tryz.prog 58 #[refV b, .iface 31 (.int .i64 m), .bool true] w fun ev w' => ev = .returned (.bool (n == m)) ∧ w' = w := by
  have q1 := eqlRN
  have q2 := eqlNum
  have m1 := Tryz.noIsR
  have m2 := Tryz.hasUnR
  have m3 := Tryz.noIsNum
  have m4 := Tryz.noUnNum
  have m5 := Tryz.noUnsNum
  have m6 := Tryz.methodUnwrapR
  have c2 : w.cell? ⟨b, 1, none⟩ = some (.iface 31 (.int .i64 n)) := by obtain ⟨x, h⟩ := h; simp only [World.cell?]; rw [h]; rfl
  clear h
  unfold refV
  go_enter Tryz.func58, Tryz.ntmps58
  go_wp2
  go_loopg [0] 1 (fun k v wr => wr = w ∧ ((k = 1 ∧ v = .iface 93 (.pointer (some ⟨b, 0, none⟩))) ∨ v = .iface 31 (.int .i64 n)))
  case atStart => exact ⟨rfl, Or.inl ⟨rfl, rfl⟩⟩
  case round =>
    obtain ⟨rfl, ⟨rfl, rfl⟩ | rfl⟩ := hrel
    · go_wp2
      go_roundg 0
      case measure => decide
      case rel => exact ⟨rfl, Or.inr rfl⟩
    · cases hnm : (n == m) with
      | true =>
        go_wp2
        go_ret
        exact ⟨by rw [hnm]; rfl, rfl⟩
      | false =>
        go_wp2
        go_ret
        exact ⟨by rw [hnm]; rfl, rfl⟩
theorem comparableNum (w : World) : (callFunc 119 #[.agg #[.pointer (some ⟨1, 31, none⟩)]]).run Tryz.prog w = .ok (.value (.bool true)) w := by
  have h55 := @run_callFunc_extern Tryz.prog 119 _ (ReflectliteType.method fun t => do Rtype.noPackHeld "Comparable" t; pure (.bool (← typeInfo t).comparable)) Tryz.func119 (by kernel_rfl) (by kernel_rfl) (by kernel_rfl) (by kernel_rfl)
  rw [h55, show ((ReflectliteType.method fun t => do Rtype.noPackHeld "Comparable" t; pure (.bool (← typeInfo t).comparable)) #[.agg #[.pointer (some ⟨1, 31, none⟩)]]).run Tryz.prog w = .ok (.bool true) w by kernel_rfl]
  rfl
set_option maxRecDepth 20000 in
theorem Is_ref (n m : Int) (b : Nat) (w : World) (h : Ref w b n) : Calls Tryz.prog 48 #[refV b, .iface 31 (.int .i64 m)] w fun e w' => e = .returned (.bool (n == m)) ∧ w' = w := by
  have h10 := @run_callFunc_extern Tryz.prog 57 _ ReflectliteType.typeOf Tryz.func57 (by kernel_rfl) (by kernel_rfl) (by kernel_rfl) (by kernel_rfl)
  have tO := Tryz.typeOfNum
  have mC := Tryz.methodComparable
  have c24 := comparableNum
  have H := hide h
  clear h
  unfold refV
  go_enter Tryz.func48, Tryz.ntmps48
  go_wp2_with (go_at_call 58; refine (is_ref_num n m b _ (unhide H)).mono ?_; rintro e w' ⟨rfl, rfl⟩)
  go_ret
  exact ⟨rfl, rfl⟩
theorem Ref.new (w : World) (x c : Int) {b : Nat} (hb : b = w.heap.size) : Ref (w.alloc (.cells #[.int .i64 x, .iface 31 (.int .i64 c)] 95)) b c := ⟨x, by rw [hb]; exact heap_alloc_new _ _⟩
theorem Ref.below {w w' : World} {b : Nat} {c : Int} (h : Ref w b c) (hb : Below w.heap.size w w') : Ref w' b c := by
  obtain ⟨x, h⟩ := h
  exact ⟨x, Below.stay hb h⟩
theorem eqlNilN (y : Value) (w : World) : (binOp .eql 62 .nilIface (.iface 31 y)).run Tryz.prog w = .ok (.bool false) w := by kernel_rfl
theorem Is_nil (m : Int) (w : World) : Calls Tryz.prog 48 #[.nilIface, .iface 31 (.int .i64 m)] w fun e w' => e = .returned (.bool false) ∧ w' = w := by
  have q := eqlNilN
  go_enter Tryz.func48, Tryz.ntmps48
  go_wp2
  go_ret
  exact ⟨rfl, rfl⟩
/-- what errors.Is says of an error, in this world and all behind it. -/
def Says (w : World) (v : Value) (f : Int → Bool) : Prop := ∀ (m : Int) (Y : World), Below w.heap.size w Y → Calls Tryz.prog 48 #[v, .iface 31 (.int .i64 m)] Y fun e w' => e = .returned (.bool (f m)) ∧ Below Y.heap.size Y w'
theorem Says.below {w w' : World} {v : Value} {f : Int → Bool} (h : Says w v f) (hb : Below w.heap.size w w') : Says w' v f := fun m Y hY => h m Y (below_far hb hY)
theorem Says.nil (w : World) : Says w .nilIface (fun _ => false) := fun m Y _ => (Is_nil m Y).mono (by rintro e w' ⟨rfl, rfl⟩; exact ⟨rfl, Below.refl _ _⟩)
theorem Says.ref {w : World} {b : Nat} {c : Int} (h : Ref w b c) : Says w (refV b) (fun m => c == m) := fun m Y hY => (Is_ref c m b Y (h.below hY)).mono (by rintro e w' ⟨rfl, rfl⟩; exact ⟨rfl, Below.refl _ _⟩)
/-- the number that a face tells of an error. -/
def faceOf (f : Int → Bool) : Int := if f 12 = true then 12 else if f 8 = true then 8 else if f 9 = true then 9 else if f 1 = true then 1 else if f 2 = true then 2 else if f 4 = true then 4 else 0
def askAt : Nat → Int
  | 0 => 12 | 1 => 8 | 2 => 9 | 3 => 1 | 4 => 2 | 5 => 4 | _ => 0
theorem faceOf_at (f : Int → Bool) (k : Nat) (hk : k < 6) (hn : ∀ j, j < k → f (askAt j) = false) (hy : f (askAt k) = true) : faceOf f = askAt k := by
  have : k = 0 ∨ k = 1 ∨ k = 2 ∨ k = 3 ∨ k = 4 ∨ k = 5 := by omega
  have h0 := hn 0; have h1 := hn 1; have h2 := hn 2; have h3 := hn 3; have h4 := hn 4
  simp only [askAt] at h0 h1 h2 h3 h4
  rcases this with rfl | rfl | rfl | rfl | rfl | rfl <;> simp only [askAt] at hy ⊢ <;> simp [faceOf, *]
theorem faceOf_none (f : Int → Bool) (hn : ∀ j, j < 6 → f (askAt j) = false) : faceOf f = 0 := by
  have h0 := hn 0 (by omega); have h1 := hn 1 (by omega); have h2 := hn 2 (by omega); have h3 := hn 3 (by omega); have h4 := hn 4 (by omega); have h5 := hn 5 (by omega)
  simp only [askAt] at h0 h1 h2 h3 h4 h5
  simp [faceOf, *]
set_option maxHeartbeats 1000000 in
theorem number_says (v : Value) (f : Int → Bool) (w : World) (h : Says w v f) : Calls Tryz.prog 32 #[v] w fun e w' => e = .returned (.int .i64 (faceOf f)) ∧ Below w.heap.size w w' := by
  obtain ⟨W, hW⟩ : ∃ W, w.alloc (.cells #[.int .i64 12, .int .i64 8, .int .i64 9, .int .i64 1, .int .i64 2, .int .i64 4] 31) = W := ⟨_, rfl⟩
  have bW : Below w.heap.size w W := by rw [← hW]; exact (Below.refl _ w).alloc (Nat.le_refl _) _
  obtain ⟨g, hg⟩ : ∃ g, w.heap.size = g := ⟨_, rfl⟩
  have xW : W.heap[g]? = some (.cells #[.int .i64 12, .int .i64 8, .int .i64 9, .int .i64 1, .int .i64 2, .int .i64 4] 31 (0, 0)) := by rw [← hg, ← hW]; exact box_at _ _
  have H := hide (h.below bW)
  have XW := hide xW
  have BW := hide bW
  have HW := hide hW
  have HG := hide hg
  clear h bW xW hW hg
  go_enter Tryz.func32, Tryz.ntmps32
  go_upto_region 2 with fail
  rw [unhide HW, unhide HG]
  go_loopw [7, 4] (fun i _ wr => ∃ k : Nat, k ≤ 6 ∧ i = .int .i64 k ∧ Below W.heap.size W wr ∧ ∀ j, j < k → f (askAt j) = false) (fun i _ _ => 6 - (intOf i).toNat)
  case atStart => exact ⟨0, by omega, rfl, Below.refl _ _, fun j hj => by omega⟩
  case round =>
    obtain ⟨k, hk, rfl, hb, hn⟩ := hrel
    by_cases h6 : k < 6
    · have ck : wr.cell? ⟨g, k, none⟩ = some (.int .i64 (askAt k)) := by
        refine (cell_of_block (Below.stay hb (unhide XW))).trans ?_
        have : k = 0 ∨ k = 1 ∨ k = 2 ∨ k = 3 ∨ k = 4 ∨ k = 5 := by omega
        rcases this with rfl | rfl | rfl | rfl | rfl | rfl <;> rfl
      have q : (k : Int) < 6 := by omega
      have C := hide (unhide H (askAt k) wr hb)
      obtain ⟨a, ha⟩ : ∃ a, askAt k = a := ⟨_, rfl⟩
      rw [ha] at ck C
      have HA := hide ha
      have HB := hide hb
      have HN := hide hn
      clear hb hn ha
      cases hf : f a with
      | true =>
        rw [hf] at C
        have HR : Hid (a = faceOf f) := hide (by rw [faceOf_at f k h6 (unhide HN) (by rw [unhide HA]; exact hf), unhide HA])
        clear hf
        go_wp2_with (go_at_call 48; refine (unhide C).mono ?_; rintro e w' ⟨rfl, b'⟩)
        go_ret
        exact ⟨by rw [← unhide HR]; rfl, (unhide BW).trans ((below_far (unhide HB) b').mono (unhide BW).size)⟩
      | false =>
        rw [hf] at C
        have HR := hide hf
        clear hf
        go_wp2_with (go_at_call 48; refine (unhide C).mono ?_; rintro e w' ⟨rfl, b'⟩)
        go_roundw
        case rel =>
          refine ⟨k + 1, by omega, by go_num, below_far (unhide HB) b', fun j hj => ?_⟩
          by_cases e : j = k
          · subst e; rw [unhide HA]; exact unhide HR
          · exact unhide HN j (by omega)
        case measure => simp [intOf]; omega
    · obtain rfl : k = 6 := by omega
      have HB := hide hb
      have HR := hide (faceOf_none f hn)
      clear hb hn
      go_wp2
      go_ret
      exact ⟨by rw [unhide HR]; rfl, (unhide BW).trans ((unhide HB).mono (unhide BW).size)⟩
end Go.Proofs.YtgllokinadjiaaaGreatDoor

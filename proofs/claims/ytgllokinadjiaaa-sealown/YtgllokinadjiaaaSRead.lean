/- seal: last, Now, All, Fence: contracts. -/
import Derived.Test.YtgllokinadjiaaaSTwin
namespace Go.Proofs.Ytgllokinadjiaaa
open Go.RowKit Go.Maps
attribute [local go_sem ↓] Go.wp_at_zero Go.wp_at_succ

theorem set5 {w y : World} {B : Nat} {v0 v1 v2 v3 v4 : Value} (hb : Below w.heap.size w y) (hB : w.heap.size ≤ B) : Below w.heap.size w (((((y.setCell ⟨B, 0, none⟩ v0).setCell ⟨B, 1, none⟩ v1).setCell ⟨B, 2, none⟩ v2).setCell ⟨B, 3, none⟩ v3).setCell ⟨B, 4, none⟩ v4) :=
  ((((hb.setCell (p := ⟨B, 0, none⟩) hB _).setCell (p := ⟨B, 1, none⟩) hB _).setCell (p := ⟨B, 2, none⟩) hB _).setCell (p := ⟨B, 3, none⟩) hB _).setCell (p := ⟨B, 4, none⟩) hB _
/-- a generation as it stands in a row. -/
def Stored (D : Nat → Prop) (w : World) (g : Gn) (mo : Option Addr) (mc : Nat) : Prop := Ir 0 w (.slice mo g.ms.length mc) g.ms ∧ (∀ k, (Value.slice mo g.ms.length mc).ownBlock = some k → D k) ∧ g.ms.length ≤ 1000000
def gnV (g : Gn) (mo : Option Addr) (mc : Nat) : Value := .agg #[.int .i64 g.n, .int .i64 g.eng, .int .i64 g.base, .slice none 0 0, .slice mo g.ms.length mc]
set_option maxRecDepth 20000 in
set_option maxHeartbeats 2000000 in
theorem last_core {w : World} {p b n m ca z : Nat} {mo : Option Addr} {mc : Nat} (hm : n = m + 1) (hl : n ≤ 1000000) (gn ge gb : Int) (pc : w.cell? ⟨p, 0, none⟩ = some (.slice (some ⟨b, 0, none⟩) n ca))
    (c0 : w.cell? ⟨b, m * 5, none⟩ = some (.int .i64 gn)) (c1 : w.cell? ⟨b, m * 5 + 1, none⟩ = some (.int .i64 ge)) (c2 : w.cell? ⟨b, m * 5 + 2, none⟩ = some (.int .i64 gb)) (c3 : w.cell? ⟨b, m * 5 + 3, none⟩ = some (.slice none 0 0)) (c4 : w.cell? ⟨b, m * 5 + 4, none⟩ = some (.slice mo z mc)) :
    Calls Try.prog 22 #[.pointer (some ⟨p, 0, none⟩)] w fun e w' => e = .returned (.agg #[.int .i64 gn, .int .i64 ge, .int .i64 gb, .slice none 0 0, .slice mo z mc]) ∧ Below w.heap.size w w' := by
  obtain ⟨W, hW⟩ : ∃ W, w.alloc (.cells #[.int .i64 0, .int .i64 0, .int .i64 0, .slice none 0 0, .slice none 0 0] 32) = W := ⟨_, rfl⟩
  have bW : Below w.heap.size w W := by rw [← hW]; exact (Below.refl _ w).alloc (Nat.le_refl _) _
  have xW : W.heap[w.heap.size]? = some (.cells #[.int .i64 0, .int .i64 0, .int .i64 0, .slice none 0 0, .slice none 0 0] 32 (0, 0)) := by rw [← hW]; exact box_at _ _
  have SX : Hid (∀ Y, Below w.heap.size w Y → (Y.cell? ⟨p, 0, none⟩ = some (.slice (some ⟨b, 0, none⟩) n ca) ∧ Y.cell? ⟨b, m * 5, none⟩ = some (.int .i64 gn) ∧ Y.cell? ⟨b, m * 5 + 1, none⟩ = some (.int .i64 ge) ∧ Y.cell? ⟨b, m * 5 + 2, none⟩ = some (.int .i64 gb) ∧ Y.cell? ⟨b, m * 5 + 3, none⟩ = some (.slice none 0 0) ∧ Y.cell? ⟨b, m * 5 + 4, none⟩ = some (.slice mo z mc))) := hide (fun Y hY =>
    ⟨(hY.cell (blk_lt pc)).trans pc, (hY.cell (blk_lt c0)).trans c0, (hY.cell (blk_lt c1)).trans c1, (hY.cell (blk_lt c2)).trans c2, (hY.cell (blk_lt c3)).trans c3, (hY.cell (blk_lt c4)).trans c4⟩)
  have z0 : W.drew.cell? ⟨w.heap.size, 0, none⟩ = some (.int .i64 0) := (cell_of_block (w := W.drew) xW).trans rfl
  have z0' : W.cell? ⟨w.heap.size, 0, none⟩ = some (.int .i64 0) := (cell_of_block (w := W) xW).trans rfl
  have z1 : W.drew.cell? ⟨w.heap.size, 1, none⟩ = some (.int .i64 0) := (cell_of_block (w := W.drew) xW).trans rfl
  have z1' : W.cell? ⟨w.heap.size, 1, none⟩ = some (.int .i64 0) := (cell_of_block (w := W) xW).trans rfl
  have z2 : W.drew.cell? ⟨w.heap.size, 2, none⟩ = some (.int .i64 0) := (cell_of_block (w := W.drew) xW).trans rfl
  have z2' : W.cell? ⟨w.heap.size, 2, none⟩ = some (.int .i64 0) := (cell_of_block (w := W) xW).trans rfl
  have z3 : W.drew.cell? ⟨w.heap.size, 3, none⟩ = some (.slice none 0 0) := (cell_of_block (w := W.drew) xW).trans rfl
  have z3' : W.cell? ⟨w.heap.size, 3, none⟩ = some (.slice none 0 0) := (cell_of_block (w := W) xW).trans rfl
  have z4 : W.drew.cell? ⟨w.heap.size, 4, none⟩ = some (.slice none 0 0) := (cell_of_block (w := W.drew) xW).trans rfl
  have z4' : W.cell? ⟨w.heap.size, 4, none⟩ = some (.slice none 0 0) := (cell_of_block (w := W) xW).trans rfl
  have fz : ∀ i, W.drew.frozen? ⟨w.heap.size, i, none⟩ = false := fun i => free_of_block (w := W.drew) xW
  have fz' : ∀ i, W.frozen? ⟨w.heap.size, i, none⟩ = false := fun i => free_of_block (w := W) xW
  have q1 : (m : Int) < (n : Int) := by omega
  have hs1 : IntKind.i64.wrap ((n : Int) - 1) = (m : Int) := by rw [show (n : Int) - 1 = (m : Int) by omega]; exact IntWalk.i64_in _ (by omega)
  have q0 : (0 : Int) ≤ (m : Int) := by omega
  have EZ := hide bW
  have XW := hide xW
  have HW := hide hW
  clear hm hW xW bW pc c0 c1 c2 c3 c4
  go_enter Try.func22, Try.ntmps22
  go_upto_region 1 with fail
  rw [unhide HW]
  clear HW
  go_region_held3 (fun Y => Y.cell? ⟨p, 0, none⟩ = some (.slice (some ⟨b, 0, none⟩) n ca) ∧ Y.cell? ⟨b, m * 5, none⟩ = some (.int .i64 gn) ∧ Y.cell? ⟨b, m * 5 + 1, none⟩ = some (.int .i64 ge) ∧ Y.cell? ⟨b, m * 5 + 2, none⟩ = some (.int .i64 gb) ∧ Y.cell? ⟨b, m * 5 + 3, none⟩ = some (.slice none 0 0) ∧ Y.cell? ⟨b, m * 5 + 4, none⟩ = some (.slice mo z mc)) (first | with_reducible exact unhide SX _ (unhide EZ) | with_reducible exact unhide SX _ (unhide EZ).drew | with_reducible exact unhide SX _ (set5 (unhide EZ) (Nat.le_refl _)) | with_reducible exact unhide SX _ (set5 (unhide EZ).drew (Nat.le_refl _)) | with_reducible exact unhide SX _ (set5 (unhide EZ) (Nat.le_refl _)).drew | with_reducible exact unhide SX _ (set5 (unhide EZ).drew (Nat.le_refl _)).drew | fail) (fail)
  go_wp2
  obtain ⟨U, hU⟩ : ∃ U : World, U = (((((W.setCell ⟨w.heap.size, 0, none⟩ (.int .i64 gn)).setCell ⟨w.heap.size, 1, none⟩ (.int .i64 ge)).setCell ⟨w.heap.size, 2, none⟩ (.int .i64 gb)).setCell ⟨w.heap.size, 3, none⟩ (.slice none 0 0)).setCell ⟨w.heap.size, 4, none⟩ (.slice mo z mc)) := ⟨_, rfl⟩
  rw [← hU]
  obtain ⟨hh, bU, kU⟩ := five_end (unhide XW) (Nat.le_refl _) (unhide EZ) U hU
  have e0 : U.drew.cell? ⟨w.heap.size, 0, none⟩ = some (.int .i64 gn) := (cell_of_block (w := U.drew) hh).trans rfl
  have e1 : U.drew.cell? ⟨w.heap.size, 1, none⟩ = some (.int .i64 ge) := (cell_of_block (w := U.drew) hh).trans rfl
  have e2 : U.drew.cell? ⟨w.heap.size, 2, none⟩ = some (.int .i64 gb) := (cell_of_block (w := U.drew) hh).trans rfl
  have e3 : U.drew.cell? ⟨w.heap.size, 3, none⟩ = some (.slice none 0 0) := (cell_of_block (w := U.drew) hh).trans rfl
  have e4 : U.drew.cell? ⟨w.heap.size, 4, none⟩ = some (.slice mo z mc) := (cell_of_block (w := U.drew) hh).trans rfl
  refine bodyPost_ret (v := .agg #[.int .i64 gn, .int .i64 ge, .int .i64 gb, .slice none 0 0, .slice mo z mc]) (by simp [results, Try.results22, go_sem, e0, e1, e2, e3, e4]) rfl ⟨rfl, bU.drew⟩


theorem last_all {D : Nat → Prop} {w : World} {p : Nat} {gs : List Gn} (h : Gs D w p gs) (hl : gs.length ≤ 1000000) {g : Gn} (hg : gs[gs.length - 1]? = some g) :
    ∃ mo mc, Stored D w g mo mc ∧ ∀ Y, Below w.heap.size w Y → Calls Try.prog 22 #[.pointer (some ⟨p, 0, none⟩)] Y fun e w' => e = .returned (gnV g mo mc) ∧ Below Y.heap.size Y w' := by
  obtain ⟨⟨rv, hbx, hrr⟩, hDp, hlt⟩ := h
  obtain ⟨ao, ca, rfl, -⟩ := hrr.slice
  obtain ⟨b, mo, mc, rfl, hDb, c0, c1, c2, c3, c4, o4, d4, l4⟩ := hrr.at hg
  refine ⟨mo, mc, ⟨o4, d4, l4⟩, fun Y hY => ?_⟩
  have hn0 : 0 < gs.length := by have := (List.getElem?_eq_some_iff.1 hg).1; omega
  have pc : w.cell? ⟨p, 0, none⟩ = some (.slice (some ⟨b, 0, none⟩) gs.length ca) := (cell_of_block hbx).trans rfl
  exact last_core (m := gs.length - 1) (by omega) hl g.n g.eng g.base ((hY.cell (blk_lt pc)).trans pc) ((hY.cell (blk_lt c0)).trans c0) ((hY.cell (blk_lt c1)).trans c1) ((hY.cell (blk_lt c2)).trans c2) ((hY.cell (blk_lt c3)).trans c3) ((hY.cell (blk_lt c4)).trans c4)
theorem last_any {D : Nat → Prop} {w : World} {p : Nat} {gs : List Gn} (h : Gs D w p gs) (hl : gs.length ≤ 1000000) {g : Gn} (hg : gs[gs.length - 1]? = some g) :
    ∃ mo mc, Stored D w g mo mc ∧ Calls Try.prog 22 #[.pointer (some ⟨p, 0, none⟩)] w fun e w' => e = .returned (gnV g mo mc) ∧ Below w.heap.size w w' := by
  obtain ⟨mo, mc, h1, h2⟩ := last_all h hl hg
  exact ⟨mo, mc, h1, h2 w (Below.refl _ _)⟩
set_option maxRecDepth 20000 in
set_option maxHeartbeats 2000000 in
theorem now_any {D : Nat → Prop} {w : World} {p : Nat} {gs : List Gn} (h : Gs D w p gs) (hl : gs.length ≤ 1000000) {g : Gn} (hg : gs[gs.length - 1]? = some g) :
    Calls Try.prog 10 #[.pointer (some ⟨p, 0, none⟩)] w fun e w' => ∃ b, e = .returned (gnV g (some ⟨b, 0, none⟩) g.ms.length) ∧ Ir w.heap.size w' (.slice (some ⟨b, 0, none⟩) g.ms.length g.ms.length) g.ms ∧ Below w.heap.size w w' := by
  obtain ⟨W, hW⟩ : ∃ W, w.alloc (.cells #[.int .i64 0, .int .i64 0, .int .i64 0, .slice none 0 0, .slice none 0 0] 32) = W := ⟨_, rfl⟩
  have bW : Below w.heap.size w W := by rw [← hW]; exact (Below.refl _ w).alloc (Nat.le_refl _) _
  have xW : W.heap[w.heap.size]? = some (.cells #[.int .i64 0, .int .i64 0, .int .i64 0, .slice none 0 0, .slice none 0 0] 32 (0, 0)) := by rw [← hW]; exact box_at _ _
  obtain ⟨mo, mc, ⟨o1, _, l1⟩, CL⟩ := last_any (h.below bW) hl hg
  obtain ⟨ao, ca, e, hfr, -⟩ := o1.slice
  cases e
  have CT := hide (fun (Y : World) (hY : Below W.heap.size W Y) => setwin_any g none 0 0 mo g.ms.length mc rfl l1 Y (hfr.1.below hY))
  have CL' := hide CL
  have XW := hide xW
  have BW := hide bW
  have HW := hide hW
  obtain ⟨gn, ge, gb, ms⟩ := g
  unfold gnV at *
  simp only at CL' CT ⊢
  obtain ⟨z, hz⟩ : ∃ z, ms.length = z := ⟨_, rfl⟩
  rw [hz] at CL' CT ⊢
  clear hW xW bW h hg CL o1 l1 hfr hz
  go_enter Try.func10, Try.ntmps10
  go_upto_region 1 with fail
  rw [unhide HW]
  go_wp2_with fail
  refine (unhide CL').mono ?_
  rintro e w1 ⟨rfl, b1⟩
  have B1 := hide b1
  have C1 := hide (unhide CT w1 b1)
  clear b1 CL' CT HW
  go_wp2_with fail
  refine (unhide C1).mono ?_
  rintro e w2 ⟨c, rfl, o2, b2⟩
  have B2 := hide (below_far (unhide BW) (below_far (unhide B1) b2))
  have x2 := Below.stay (below_far (unhide B1) b2) (unhide XW)
  have X2 := hide x2
  have O2 := hide (o2.more (Nat.le_trans (unhide BW).size (unhide B1).size))
  have z0 : w2.cell? ⟨w.heap.size, 0, none⟩ = some (.int .i64 0) := (cell_of_block x2).trans rfl
  have z1 : w2.cell? ⟨w.heap.size, 1, none⟩ = some (.int .i64 0) := (cell_of_block x2).trans rfl
  have z2 : w2.cell? ⟨w.heap.size, 2, none⟩ = some (.int .i64 0) := (cell_of_block x2).trans rfl
  have z3 : w2.cell? ⟨w.heap.size, 3, none⟩ = some (.slice none 0 0) := (cell_of_block x2).trans rfl
  have z4 : w2.cell? ⟨w.heap.size, 4, none⟩ = some (.slice none 0 0) := (cell_of_block x2).trans rfl
  have fz : ∀ i, w2.frozen? ⟨w.heap.size, i, none⟩ = false := fun i => free_of_block x2
  clear b2 x2 o2 C1 B1
  go_wp2
  obtain ⟨U, hU⟩ : ∃ U : World, U = (((((w2.setCell ⟨w.heap.size, 0, none⟩ (.int .i64 gn)).setCell ⟨w.heap.size, 1, none⟩ (.int .i64 ge)).setCell ⟨w.heap.size, 2, none⟩ (.int .i64 gb)).setCell ⟨w.heap.size, 3, none⟩ (.slice none 0 0)).setCell ⟨w.heap.size, 4, none⟩ (.slice (some ⟨c, 0, none⟩) z z)) := ⟨_, rfl⟩
  rw [← hU]
  obtain ⟨hh, bU, kU⟩ := five_end (unhide X2) (Nat.le_refl _) (unhide B2) U hU
  have e0 : U.cell? ⟨w.heap.size, 0, none⟩ = some (.int .i64 gn) := (cell_of_block (w := U) hh).trans rfl
  have e1 : U.cell? ⟨w.heap.size, 1, none⟩ = some (.int .i64 ge) := (cell_of_block (w := U) hh).trans rfl
  have e2 : U.cell? ⟨w.heap.size, 2, none⟩ = some (.int .i64 gb) := (cell_of_block (w := U) hh).trans rfl
  have e3 : U.cell? ⟨w.heap.size, 3, none⟩ = some (.slice none 0 0) := (cell_of_block (w := U) hh).trans rfl
  have e4 : U.cell? ⟨w.heap.size, 4, none⟩ = some (.slice (some ⟨c, 0, none⟩) z z) := (cell_of_block (w := U) hh).trans rfl
  refine bodyPost_ret (v := .agg #[.int .i64 gn, .int .i64 ge, .int .i64 gb, .slice none 0 0, .slice (some ⟨c, 0, none⟩) z z]) (by simp [results, Try.results10, go_sem, e0, e1, e2, e3, e4]) rfl ⟨_, rfl, (unhide O2).other kU (unhide X2) (by decide), bU⟩

theorem field_n (a b c : Int) (d e : Value) (W : World) : (Instr.field 32 (.agg #[.int .i64 a, .int .i64 b, .int .i64 c, d, e]) 0).run Try.prog W = .ok (.int .i64 a) W := by kernel_rfl
theorem field_base (a b c : Int) (d e : Value) (W : World) : (Instr.field 32 (.agg #[.int .i64 a, .int .i64 b, .int .i64 c, d, e]) 2).run Try.prog W = .ok (.int .i64 c) W := by kernel_rfl
set_option maxRecDepth 20000 in
set_option maxHeartbeats 1000000 in
theorem fence_any {D : Nat → Prop} {w : World} {p : Nat} {gs : List Gn} (h : Gs D w p gs) (hl : gs.length ≤ 1000000) {g : Gn} (hg : gs[gs.length - 1]? = some g) (a : Int) :
    Calls Try.prog 16 #[.pointer (some ⟨p, 0, none⟩), .int .i64 a] w fun e w' => e = .returned (.int .i64 (if a < g.n then 18 else if g.n < a then 2 else 0)) ∧ Below w.heap.size w w' := by
  obtain ⟨mo, mc, _, CL⟩ := last_any h hl hg
  have CL' := hide CL
  have FN := field_n
  obtain ⟨gn, ge, gb, ms⟩ := g
  unfold gnV at CL'
  simp only at CL' ⊢
  clear h hg CL
  by_cases h1 : a < gn
  · rw [if_pos h1]
    go_enter Try.func16, Try.ntmps16
    go_wp2_with fail
    refine (unhide CL').mono ?_
    rintro e w1 ⟨rfl, b1⟩
    have B1 := hide b1
    clear b1 CL'
    go_wp2
    go_ret
    exact ⟨rfl, unhide B1⟩
  · rw [if_neg h1]
    by_cases h2 : gn < a
    · rw [if_pos h2]
      go_enter Try.func16, Try.ntmps16
      go_wp2_with fail
      refine (unhide CL').mono ?_
      rintro e w1 ⟨rfl, b1⟩
      have B1 := hide b1
      clear b1 CL'
      go_wp2
      go_ret
      exact ⟨rfl, unhide B1⟩
    · rw [if_neg h2]
      go_enter Try.func16, Try.ntmps16
      go_wp2_with fail
      refine (unhide CL').mono ?_
      rintro e w1 ⟨rfl, b1⟩
      have B1 := hide b1
      clear b1 CL'
      go_wp2
      go_ret
      exact ⟨rfl, unhide B1⟩
end Go.Proofs.Ytgllokinadjiaaa

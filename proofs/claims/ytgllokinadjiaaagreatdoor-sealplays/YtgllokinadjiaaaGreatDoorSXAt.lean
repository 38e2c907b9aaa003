/- The document's At: a contract. -/
import Derived.Test.YtgllokinadjiaaaGreatDoorSXNew
namespace Go.Proofs.YtgllokinadjiaaaGreatDoor
open Go.RowKit Go.Maps
attribute [local go_sem ↓] Go.wp_at_zero Go.wp_at_succ

theorem atOf_nil (index : Int) : atOf [] index = zeroGn := rfl
theorem atOf_snoc (gs : List Gn) (g : Gn) (index : Int) : atOf (gs ++ [g]) index = if g.base < index then g else atOf gs index := by
  unfold atOf
  rw [List.reverse_append]
  simp only [List.reverse_cons, List.reverse_nil, List.nil_append, List.singleton_append, List.find?_cons]
  by_cases h : g.base < index
  · rw [if_pos h, decide_eq_true h]; rfl
  · rw [if_neg h, decide_eq_false h]
theorem atOf_take {gs : List Gn} {k : Nat} {g : Gn} (h : gs[k]? = some g) (index : Int) : atOf (gs.take (k + 1)) index = if g.base < index then g else atOf (gs.take k) index := by
  rw [List.take_add_one, h]; exact atOf_snoc _ _ _
set_option maxRecDepth 20000 in
set_option maxHeartbeats 4000000 in
theorem xat_any {F : Nat → Prop} {base : Nat} {w : World} {p : Nat} {rv : Value} {gs : List Gn} (h : XG F base w p rv gs) (hl : gs.length ≤ 1000000) (index : Int) :
    Calls Tryz.prog 19 #[.pointer (some ⟨p, 0, none⟩), .int .i64 index] w fun e w' => ∃ oo oc mo mc, e = .returned (xgV (atOf gs index) oo oc mo mc) ∧ InF F w' mo (atOf gs index).ms ∧ (atOf gs index).ms.length ≤ 1000 ∧ Below w.heap.size w w' := by
  obtain ⟨ao, cap, rfl, -, -, -⟩ := h.row.slice
  obtain ⟨N, hN⟩ : ∃ N, gs.length = N := ⟨_, rfl⟩
  have hbx := h.box
  have hrow := h.row
  rw [hN] at hbx hrow hl
  obtain ⟨W0, hW0⟩ : ∃ W, w.alloc (.cells #[.int .i64 0, .int .i64 0, .int .i64 0, .slice none 0 0, .slice none 0 0] 26) = W := ⟨_, rfl⟩
  obtain ⟨W, hW⟩ : ∃ W, W0.alloc (.cells #[.int .i64 0, .int .i64 0, .int .i64 0, .slice none 0 0, .slice none 0 0] 26) = W := ⟨_, rfl⟩
  have s0 : W0.heap.size = w.heap.size + 1 := by rw [← hW0]; simp
  have b0 : Below w.heap.size w W0 := by rw [← hW0]; exact (Below.refl _ w).alloc (Nat.le_refl _) _
  have b1 : Below W0.heap.size W0 W := by rw [← hW]; exact (Below.refl _ W0).alloc (Nat.le_refl _) _
  have bW := below_far b0 b1
  have x0 : W.heap[w.heap.size]? = some (.cells #[.int .i64 0, .int .i64 0, .int .i64 0, .slice none 0 0, .slice none 0 0] 26 (0, 0)) := Below.stay b1 (by rw [← hW0]; exact box_at _ _)
  have x1 : W.heap[w.heap.size + 1]? = some (.cells #[.int .i64 0, .int .i64 0, .int .i64 0, .slice none 0 0, .slice none 0 0] 26 (0, 0)) := by rw [← s0, ← hW]; exact box_at _ _
  have HW : Hid ((w.alloc (.cells #[.int .i64 0, .int .i64 0, .int .i64 0, .slice none 0 0, .slice none 0 0] 26)).alloc (.cells #[.int .i64 0, .int .i64 0, .int .i64 0, .slice none 0 0, .slice none 0 0] 26) = W) := by rw [hW0]; exact hW
  have pc : w.cell? ⟨p, 0, none⟩ = some (.slice ao N cap) := (cell_of_block hbx).trans rfl
  have HPC := hide pc
  have HR := hide hrow
  have HN := hide hN
  have X0 := hide x0
  have X1 := hide x1
  have BW := hide bW
  clear h hbx hrow hN hW0 hW s0 b0 b1 bW x0 x1 pc
  go_enter Tryz.func19, Tryz.ntmps19
  go_upto_region 2 with fail
  rw [unhide HW]
  go_wp2
  go_loopw [6] (fun iv wr => ∃ (k : Nat) (oo : Option Addr) (oc : Nat) (mo : Option Addr) (mc : Nat), k ≤ N ∧ iv = .int .i64 k ∧ wr.heap[w.heap.size + 1]? = some (.cells #[.int .i64 (atOf (gs.take k) index).n, .int .i64 (atOf (gs.take k) index).eng, .int .i64 (atOf (gs.take k) index).base, .slice oo 0 oc, .slice mo (atOf (gs.take k) index).ms.length mc] 26 (0, 0)) ∧ wr.heap[w.heap.size]? = some (.cells #[.int .i64 0, .int .i64 0, .int .i64 0, .slice none 0 0, .slice none 0 0] 26 (0, 0)) ∧ InF F w mo (atOf (gs.take k) index).ms ∧ (atOf (gs.take k) index).ms.length ≤ 1000 ∧ Below w.heap.size w wr) (fun iv _ => N - (intOf iv).toNat)
  case atStart => exact ⟨0, none, 0, none, 0, Nat.zero_le _, rfl, unhide X1, unhide X0, InF.nil _ _ _, Nat.zero_le _, unhide BW⟩
  case round =>
    obtain ⟨k, oo, oc, mo, mc, hk, rfl, xb, xa, him, hml, hb⟩ := hrel
    obtain ⟨A, hA⟩ : ∃ A, atOf (gs.take k) index = A := ⟨_, rfl⟩
    rw [hA] at xb him hml
    have pc := (hb.cell (blk_lt (unhide HPC))).trans (unhide HPC)
    have HB := hide hb
    have XB := hide xb
    have XA := hide xa
    have HI := hide him
    have HML := hide hml
    have HA := hide hA
    clear him hml hA
    by_cases hlt : k < N
    · obtain ⟨g, hg⟩ : ∃ g, gs[k]? = some g := ⟨_, List.getElem?_eq_getElem (by rw [unhide HN]; exact hlt)⟩
      obtain ⟨b, ro, rc, no, nc, rfl, c0', c1', c2', c3', c4', gim, gml⟩ := (unhide HR).at hg
      have c0 := (hb.cell (blk_lt c0')).trans c0'
      have c1 := (hb.cell (blk_lt c1')).trans c1'
      have c2 := (hb.cell (blk_lt c2')).trans c2'
      have c3 := (hb.cell (blk_lt c3')).trans c3'
      have c4 := (hb.cell (blk_lt c4')).trans c4'
      clear c0' c1' c2' c3' c4'
      have AT := atOf_take hg index
      rw [unhide HA] at AT
      have q : (k : Int) < (N : Int) := by omega
      clear hg
      by_cases hi : g.base < index
      · rw [if_pos hi] at AT
        have HAT := hide AT
        have GI := hide gim
        have GM := hide gml
        have fz : ∀ i, wr.frozen? ⟨w.heap.size + 1, i, none⟩ = false := fun i => free_of_block xb
        have z0 : wr.cell? ⟨w.heap.size + 1, 0, none⟩ = some (.int .i64 A.n) := (cell_of_block xb).trans rfl
        have z1 : wr.cell? ⟨w.heap.size + 1, 1, none⟩ = some (.int .i64 A.eng) := (cell_of_block xb).trans rfl
        have z2 : wr.cell? ⟨w.heap.size + 1, 2, none⟩ = some (.int .i64 A.base) := (cell_of_block xb).trans rfl
        have z3 : wr.cell? ⟨w.heap.size + 1, 3, none⟩ = some (.slice oo 0 oc) := (cell_of_block xb).trans rfl
        have z4 : wr.cell? ⟨w.heap.size + 1, 4, none⟩ = some (.slice mo A.ms.length mc) := (cell_of_block xb).trans rfl
        clear AT gim gml xb xa hb
        go_wp2
        go_roundw
        case rel =>
          obtain ⟨U, hU⟩ : ∃ U : World, U = (((((wr.setCell ⟨w.heap.size + 1, 0, none⟩ (.int .i64 g.n)).setCell ⟨w.heap.size + 1, 1, none⟩ (.int .i64 g.eng)).setCell ⟨w.heap.size + 1, 2, none⟩ (.int .i64 g.base)).setCell ⟨w.heap.size + 1, 3, none⟩ (.slice ro 0 rc)).setCell ⟨w.heap.size + 1, 4, none⟩ (.slice no g.ms.length nc)) := ⟨_, rfl⟩
          rw [← hU]
          obtain ⟨hh, bU, kU⟩ := five_end (unhide XB) (Nat.le_succ _) (unhide HB) U hU
          refine ⟨k + 1, ro, rc, no, nc, by omega, by go_num, ?_, ?_, ?_, ?_, bU⟩
          · rw [unhide HAT]; exact hh
          · exact (kU _ (by omega)).trans (unhide XA)
          · rw [unhide HAT]; exact unhide GI
          · rw [unhide HAT]; exact unhide GM
        case measure => simp [intOf]; omega
      · rw [if_neg hi] at AT
        have HAT := hide AT
        clear AT gim gml xb xa hb
        go_wp2
        go_roundw
        case rel => exact ⟨k + 1, oo, oc, mo, mc, by omega, by go_num, by rw [unhide HAT]; exact unhide XB, unhide XA, by rw [unhide HAT]; exact unhide HI, by rw [unhide HAT]; exact unhide HML, unhide HB⟩
        case measure => simp [intOf]; omega
    · obtain rfl : k = N := by omega
      have HE : Hid (A = atOf gs index) := hide (by rw [← unhide HA, List.take_of_length_le (by rw [unhide HN]; exact Nat.le_refl _)])
      have fz : ∀ i, wr.frozen? ⟨w.heap.size, i, none⟩ = false := fun i => free_of_block xa
      have z0 : wr.cell? ⟨w.heap.size, 0, none⟩ = some (.int .i64 0) := (cell_of_block xa).trans rfl
      have z1 : wr.cell? ⟨w.heap.size, 1, none⟩ = some (.int .i64 0) := (cell_of_block xa).trans rfl
      have z2 : wr.cell? ⟨w.heap.size, 2, none⟩ = some (.int .i64 0) := (cell_of_block xa).trans rfl
      have z3 : wr.cell? ⟨w.heap.size, 3, none⟩ = some (.slice none 0 0) := (cell_of_block xa).trans rfl
      have z4 : wr.cell? ⟨w.heap.size, 4, none⟩ = some (.slice none 0 0) := (cell_of_block xa).trans rfl
      have y0 : wr.cell? ⟨w.heap.size + 1, 0, none⟩ = some (.int .i64 A.n) := (cell_of_block xb).trans rfl
      have y1 : wr.cell? ⟨w.heap.size + 1, 1, none⟩ = some (.int .i64 A.eng) := (cell_of_block xb).trans rfl
      have y2 : wr.cell? ⟨w.heap.size + 1, 2, none⟩ = some (.int .i64 A.base) := (cell_of_block xb).trans rfl
      have y3 : wr.cell? ⟨w.heap.size + 1, 3, none⟩ = some (.slice oo 0 oc) := (cell_of_block xb).trans rfl
      have y4 : wr.cell? ⟨w.heap.size + 1, 4, none⟩ = some (.slice mo A.ms.length mc) := (cell_of_block xb).trans rfl
      clear xa xb hb HA
      have q : ¬ (k : Int) < (k : Int) := by omega
      go_wp2
      obtain ⟨U, hU⟩ : ∃ U : World, U = (((((wr.setCell ⟨w.heap.size, 0, none⟩ (.int .i64 A.n)).setCell ⟨w.heap.size, 1, none⟩ (.int .i64 A.eng)).setCell ⟨w.heap.size, 2, none⟩ (.int .i64 A.base)).setCell ⟨w.heap.size, 3, none⟩ (.slice oo 0 oc)).setCell ⟨w.heap.size, 4, none⟩ (.slice mo A.ms.length mc)) := ⟨_, rfl⟩
      rw [← hU]
      obtain ⟨hh, bU, kU⟩ := five_end (unhide XA) (Nat.le_refl _) (unhide HB) U hU
      have e0 : U.cell? ⟨w.heap.size, 0, none⟩ = some (.int .i64 A.n) := (cell_of_block hh).trans rfl
      have e1 : U.cell? ⟨w.heap.size, 1, none⟩ = some (.int .i64 A.eng) := (cell_of_block hh).trans rfl
      have e2 : U.cell? ⟨w.heap.size, 2, none⟩ = some (.int .i64 A.base) := (cell_of_block hh).trans rfl
      have e3 : U.cell? ⟨w.heap.size, 3, none⟩ = some (.slice oo 0 oc) := (cell_of_block hh).trans rfl
      have e4 : U.cell? ⟨w.heap.size, 4, none⟩ = some (.slice mo A.ms.length mc) := (cell_of_block hh).trans rfl
      refine bodyPost_ret (v := .agg #[.int .i64 A.n, .int .i64 A.eng, .int .i64 A.base, .slice oo 0 oc, .slice mo A.ms.length mc]) (by simp [results, Tryz.results19, go_sem, e0, e1, e2, e3, e4]) rfl ?_
      rw [← unhide HE]
      exact ⟨oo, oc, mo, ⟨mc, rfl⟩, (unhide HI).below bU, unhide HML, bU⟩
end Go.Proofs.YtgllokinadjiaaaGreatDoor

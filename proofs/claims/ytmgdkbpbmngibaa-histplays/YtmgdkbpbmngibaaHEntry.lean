/- hist: Entry: a contract. -/
import Derived.Test.YtmgdkbpbmngibaaHRead
import Derived.Test.YtmgdkbpbmngibaaHTwin
namespace Go.Proofs.Ytmgdkbpbmngibaa
open Go.RowKit Go.Maps

def zeroEn : En := ⟨0, 0, 0, ⟨#[]⟩, [], 0⟩
/-- the entry at an index. -/
def entOf (b : Int) (rs : List Rw) (i : Int) : En := match rowAt b rs i with | some r => r.2 | none => zeroEn
theorem Ir.more {a c : Nat} {w : World} {v : Value} {ys : List Int} (h : Ir a w v ys) (hc : c ≤ a) : Ir c w v ys := by
  refine ⟨h.1, ?_⟩
  rcases h.2 with e | ⟨g, cap, cur, e1, e2, e3⟩
  · exact Or.inl e
  · exact Or.inr ⟨g, cap, cur, e1, Nat.le_trans hc e2, e3⟩

set_option maxRecDepth 20000 in
set_option maxHeartbeats 2000000 in
theorem entry_any {D : Nat → Prop} {w : World} {p : Nat} {b : Int} {rs : List Rw} (h : Hs D w p b rs) (hf : Fit b rs) (i : Int) :
    Calls Try.prog 39 #[.pointer (some ⟨p, 0, none⟩), .int .i64 i] w fun e w' => ∃ mv, e = .returned (.tuple #[.agg #[.int .i64 (entOf b rs i).kind, .int .i64 (entOf b rs i).client, .int .i64 (entOf b rs i).seq, .string (entOf b rs i).text, mv, .int .i64 (entOf b rs i).dest], .bool (rowAt b rs i).isSome]) ∧ Ir w.heap.size w' mv (entOf b rs i).ms ∧ Below w.heap.size w w' := by
  obtain ⟨W, hW⟩ : ∃ W, w.alloc (.cells #[.int .i64 0, .int .i64 0, .int .i64 0, .string ⟨#[]⟩, .slice none 0 0, .int .i64 0] 60) = W := ⟨_, rfl⟩
  have bW : Below w.heap.size w W := by rw [← hW]; exact (Below.refl _ w).alloc (Nat.le_refl _) _
  have xW : W.heap[w.heap.size]? = some (.cells #[.int .i64 0, .int .i64 0, .int .i64 0, .string ⟨#[]⟩, .slice none 0 0, .int .i64 0] 60 (0, 0)) := by rw [← hW]; exact box_at _ _
  have HA := hide (has_any (h.below bW) hf i)
  have AH := hide (fun Y (hY : Below W.heap.size W Y) => ahead_any ((h.below bW).below hY) hf i)
  have BW := hide bW
  have HW := hide hW
  by_cases hi : b < i ∧ i ≤ b + (rs.length : Int)
  · obtain ⟨r, hr1, hr2⟩ := rowAt_some hi
    have ht : entOf b rs i = r.2 := by unfold entOf; rw [hr1]
    rw [ht, hr1]
    rw [decide_eq_true hi] at HA
    rw [aheadOf_in hi] at AH
    obtain ⟨k, hk⟩ : ∃ k, (i - b - 1).toNat = k := ⟨_, rfl⟩
    rw [hk] at AH hr2
    obtain ⟨⟨rv, hbx, hrr⟩, _, _⟩ := h.below bW
    obtain ⟨ao, cap, rfl, h1, h2, h3⟩ := hrr.slice
    have hkn : k < rs.length := (List.getElem?_eq_some_iff.1 hr2).1
    obtain ⟨n, hn⟩ : ∃ n, rs.length = n := ⟨_, rfl⟩
    rw [hn] at hkn hbx hrr h1
    obtain ⟨g, mo, mc, rfl, hg, hcl, hir, _, hms⟩ := hrr.at hr2
    obtain ⟨t, e⟩ := r
    obtain ⟨_, e1, e2, e3, e4, e5, e6⟩ := En.seven hcl
    simp only at e1 e2 e3 e4 e5 e6 hir hms ⊢
    have TW := hide (fun Y (hY : Below W.heap.size W Y) => htwin_any e mo mc Y (hir.inF.ints.below hY) hms)
    obtain ⟨kind, client, seq, text, ms, dest⟩ := e
    simp only at e1 e2 e3 e4 e5 e6 TW hir hms ⊢
    obtain ⟨z, hz⟩ : ∃ z, ms.length = z := ⟨_, rfl⟩
    rw [hz] at e5 TW
    have HX := hide hbx
    have XW := hide xW
    have E1 := hide e1
    have E2 := hide e2
    have E3 := hide e3
    have E4 := hide e4
    have E5 := hide e5
    have E6 := hide e6
    have hkI : (k : Int) < (n : Int) := by omega
    have hk0 : (0 : Int) ≤ (k : Int) := by omega
    clear hcl hrr hbx hr1 hr2 ht hn hi hk h3 hg e1 e2 e3 e4 e5 e6 hir hms hz hW xW bW
    go_enter Try.func39, Try.ntmps39
    go_wp2_with fail
    rw [unhide HW]
    refine (unhide HA).mono ?_
    rintro e w1 ⟨rfl, b1⟩
    have X1 := Below.stay b1 (unhide HX)
    have c1 : w1.drew.cell? ⟨p, 1, none⟩ = some (.slice (some ⟨g, 0, none⟩) n cap) := (cell_of_block (w := w1.drew) X1).trans rfl
    have A1 := hide (unhide AH w1.drew b1.drew)
    have B1 := hide b1
    clear b1 HA AH X1
    go_upto_region 3 with fail
    go_region_with (first
      | (go_at_call 45; refine (unhide A1).mono ?_; rintro e w2 ⟨rfl, b2⟩
         have B2 := hide (below_far (unhide B1).drew b2)
         have c2 : w2.cell? ⟨p, 1, none⟩ = some (.slice (some ⟨g, 0, none⟩) n cap) := (cell_of_block (Below.stay (unhide B2) (unhide HX))).trans rfl
         have d1 : w2.cell? ⟨g, k * 7 + 1, none⟩ = some (.int .i64 kind) := by rw [(unhide B2).cell (blk_lt (unhide E1))]; exact unhide E1
         have d2 : w2.cell? ⟨g, k * 7 + 2, none⟩ = some (.int .i64 client) := by rw [(unhide B2).cell (blk_lt (unhide E2))]; exact unhide E2
         have d3 : w2.cell? ⟨g, k * 7 + 3, none⟩ = some (.int .i64 seq) := by rw [(unhide B2).cell (blk_lt (unhide E3))]; exact unhide E3
         have d4 : w2.cell? ⟨g, k * 7 + 4, none⟩ = some (.string text) := by rw [(unhide B2).cell (blk_lt (unhide E4))]; exact unhide E4
         have d5 : w2.cell? ⟨g, k * 7 + 5, none⟩ = some (.slice mo z mc) := by rw [(unhide B2).cell (blk_lt (unhide E5))]; exact unhide E5
         have d6 : w2.cell? ⟨g, k * 7 + 6, none⟩ = some (.int .i64 dest) := by rw [(unhide B2).cell (blk_lt (unhide E6))]; exact unhide E6
         have T2 := hide (unhide TW w2 (unhide B2))
         clear b2)
      | (go_at_call 46; refine (unhide T2).mono ?_; rintro e w3 ⟨mv, rfl, o3, b3⟩
         obtain ⟨mo2, mc2, rfl, -⟩ := o3.slice
         have B3 := hide (below_far (unhide B2) b3)
         have x3 := Below.stay (unhide B3) (unhide XW)
         have X3 := hide x3
         have z0 : w3.cell? ⟨w.heap.size, 0, none⟩ = some (.int .i64 0) := (cell_of_block x3).trans rfl
         have z1 : w3.cell? ⟨w.heap.size, 1, none⟩ = some (.int .i64 0) := (cell_of_block x3).trans rfl
         have z2 : w3.cell? ⟨w.heap.size, 2, none⟩ = some (.int .i64 0) := (cell_of_block x3).trans rfl
         have z3 : w3.cell? ⟨w.heap.size, 3, none⟩ = some (.string ⟨#[]⟩) := (cell_of_block x3).trans rfl
         have z4 : w3.cell? ⟨w.heap.size, 4, none⟩ = some (.slice none 0 0) := (cell_of_block x3).trans rfl
         have z5 : w3.cell? ⟨w.heap.size, 5, none⟩ = some (.int .i64 0) := (cell_of_block x3).trans rfl
         have fz : ∀ i, w3.frozen? ⟨w.heap.size, i, none⟩ = false := fun i => free_of_block x3
         have O3 := hide (o3.more (unhide B2).size)
         clear b3 x3 o3))
    all_goals go_wp2
    all_goals
      obtain ⟨V, hV⟩ : ∃ V : World, V = ((((((w3.setCell ⟨w.heap.size, 0, none⟩ (.int .i64 kind)).setCell ⟨w.heap.size, 1, none⟩ (.int .i64 client)).setCell ⟨w.heap.size, 2, none⟩ (.int .i64 seq)).setCell ⟨w.heap.size, 3, none⟩ (.string text)).setCell ⟨w.heap.size, 4, none⟩ (.slice mo2 ms.length mc2)).setCell ⟨w.heap.size, 5, none⟩ (.int .i64 dest)) := ⟨_, rfl⟩
      rw [← hV]
      obtain ⟨d0, d1, d2, d3, d4, d5, bV, kV⟩ := six_end (unhide X3) (Nat.le_refl _) (below_far (unhide BW) (unhide B3)) V hV
      exact bodyPost_ret (v := .tuple #[.agg #[.int .i64 kind, .int .i64 client, .int .i64 seq, .string text, .slice mo2 ms.length mc2, .int .i64 dest], .bool true]) (by simp [results, Try.results39, go_sem, d0, d1, d2, d3, d4, d5]) rfl ⟨_, rfl, ((unhide O3).other kV (unhide X3) (by decide)).more (unhide BW).size, bV⟩
  · have ht : entOf b rs i = zeroEn := by unfold entOf; rw [rowAt_none hi]
    rw [ht, rowAt_none hi]
    rw [decide_eq_false hi] at HA
    have XW := hide xW
    clear ht hi AH h hW xW bW
    go_enter Try.func39, Try.ntmps39
    go_wp2_with fail
    rw [unhide HW]
    refine (unhide HA).mono ?_
    rintro e w1 ⟨rfl, b1⟩
    have B1 := hide (below_far (unhide BW) b1)
    have x3 := Below.stay b1 (unhide XW)
    have X3 := hide x3
    have z0 : w1.cell? ⟨w.heap.size, 0, none⟩ = some (.int .i64 0) := (cell_of_block x3).trans rfl
    have z1 : w1.cell? ⟨w.heap.size, 1, none⟩ = some (.int .i64 0) := (cell_of_block x3).trans rfl
    have z2 : w1.cell? ⟨w.heap.size, 2, none⟩ = some (.int .i64 0) := (cell_of_block x3).trans rfl
    have z3 : w1.cell? ⟨w.heap.size, 3, none⟩ = some (.string ⟨#[]⟩) := (cell_of_block x3).trans rfl
    have z4 : w1.cell? ⟨w.heap.size, 4, none⟩ = some (.slice none 0 0) := (cell_of_block x3).trans rfl
    have z5 : w1.cell? ⟨w.heap.size, 5, none⟩ = some (.int .i64 0) := (cell_of_block x3).trans rfl
    have fz : ∀ i, w1.frozen? ⟨w.heap.size, i, none⟩ = false := fun i => free_of_block x3
    clear b1 HA x3
    go_wp2
    obtain ⟨V, hV⟩ : ∃ V : World, V = ((((((w1.setCell ⟨w.heap.size, 0, none⟩ (.int .i64 0)).setCell ⟨w.heap.size, 1, none⟩ (.int .i64 0)).setCell ⟨w.heap.size, 2, none⟩ (.int .i64 0)).setCell ⟨w.heap.size, 3, none⟩ (.string ⟨#[]⟩)).setCell ⟨w.heap.size, 4, none⟩ (.slice none 0 0)).setCell ⟨w.heap.size, 5, none⟩ (.int .i64 0)) := ⟨_, rfl⟩
    rw [← hV]
    obtain ⟨d0, d1, d2, d3, d4, d5, bV, kV⟩ := six_end (unhide X3) (Nat.le_refl _) (unhide B1) V hV
    exact bodyPost_ret (v := .tuple #[.agg #[.int .i64 0, .int .i64 0, .int .i64 0, .string ⟨#[]⟩, .slice none 0 0, .int .i64 0], .bool false]) (by simp [results, Try.results39, go_sem, d0, d1, d2, d3, d4, d5]) rfl ⟨_, rfl, Ir.nil _ _, bV⟩
end Go.Proofs.Ytmgdkbpbmngibaa

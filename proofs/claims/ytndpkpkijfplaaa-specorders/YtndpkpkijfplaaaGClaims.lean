/- claimsOf: a contract. -/
import Derived.Test.YtndpkpkijfplaaaGSettle
import Derived.Laws.MakeOwn
namespace Go.Proofs.Ytndpkpkijfplaaa
open Go.RowKit Go.Maps
attribute [local go_sem ↓] Go.wp_at_zero Go.wp_at_succ

/-- the cells of a claim of zeros. -/
def zclaim : Array Value := #[.int .i64 0, .int .i64 0, .int .i64 0]
theorem Try.infoCl : (Try.prog.info? 64).map (fun i => (i.zero, i.size, i.bytes)) = some (some (.agg zclaim), 3, 24) := by kernel_rfl
theorem make_claims (n : Nat) (h : n ≤ 1000000) (w : World) : (Instr.makeSlice 65 (.int .i64 (n : Int)) (.int .i64 (n : Int))).run Try.prog w = .ok (.slice (some ⟨w.heap.size, 0, none⟩) n n) (w.alloc (.cells (madeCells zclaim (n * 3)) 64)) := by
  obtain ⟨i, hi, hz0, hz1, hz2⟩ := info_parts Try.infoCl
  have := run_make (P := Try.prog) w 65 64 i (.agg zclaim) Try.underlying65 hi hz0 .i64 .i64 n n (by omega) (by omega) (by rw [hz2]; omega) (by omega)
  rw [hz1] at this
  simpa [Value.cells] using this
/-- the first claims of a row that is filled. -/
def ClF (cur : Array Value) (n k : Nat) (es : List En) : Prop :=
  cur.size = n * 3 ∧ ∀ (i : Nat) (e : En), i < k → es[i]? = some e → cur[i * 3]? = some (.int .i64 e.client) ∧ cur[i * 3 + 1]? = some (.int .i64 e.seq) ∧ cur[i * 3 + 2]? = some (.int .i64 ((i : Int) + 1))
theorem ClF.next {cur : Array Value} {n k : Nat} {es : List En} {e : En} (h : ClF cur n k es) (he : es[k]? = some e) (hk : k < n) :
    ClF (((cur.setIfInBounds (k * 3) (.int .i64 e.client)).setIfInBounds (k * 3 + 1) (.int .i64 e.seq)).setIfInBounds (k * 3 + 2) (.int .i64 ((k : Int) + 1))) n (k + 1) es := by
  obtain ⟨h1, h2⟩ := h
  refine ⟨by simpa using h1, fun i e' hi he' => ?_⟩
  by_cases hik : i = k
  · subst hik
    rw [he] at he'
    cases he'
    simp only [Array.getElem?_setIfInBounds, Array.size_setIfInBounds, h1]
    refine ⟨?_, ?_, ?_⟩
    · rw [if_neg (by omega), if_neg (by omega), if_pos trivial, if_pos (by omega)]
    · rw [if_neg (by omega), if_pos trivial, if_pos (by omega)]
    · rw [if_pos trivial, if_pos (by omega)]
  · obtain ⟨a, b, c⟩ := h2 i e' (by omega) he'
    simp only [Array.getElem?_setIfInBounds, Array.size_setIfInBounds, h1]
    refine ⟨?_, ?_, ?_⟩
    · rw [if_neg (by omega), if_neg (by omega), if_neg (by omega)]; exact a
    · rw [if_neg (by omega), if_neg (by omega), if_neg (by omega)]; exact b
    · rw [if_neg (by omega), if_neg (by omega), if_neg (by omega)]; exact c
theorem ClF.all {w : World} {g : Nat} {cur : Array Value} {n : Nat} {es : List En} (h : ClF cur n n es) (hl : es.length = n) (hg : w.heap[g]? = some (.cells cur 64 (0, 0))) : ClR w (some ⟨g, 0, none⟩) (claimsFrom 0 es) := fun i x hx => by
  have hi : i < es.length := by have := (List.getElem?_eq_some_iff.1 hx).1; rwa [claims_len] at this
  have he : es[i]? = some es[i] := List.getElem?_eq_getElem hi
  have hx2 := claims_at es 0 i _ he
  rw [hx, Nat.zero_add] at hx2
  cases hx2
  obtain ⟨a, b, c⟩ := h.2 i _ (by omega) he
  exact ⟨g, 0, rfl, by rw [cell_of_block hg, Nat.zero_add]; exact a, by rw [cell_of_block hg, Nat.zero_add]; exact b, by rw [cell_of_block hg, Nat.zero_add]; exact c⟩
set_option maxRecDepth 20000 in
set_option maxHeartbeats 2000000 in
/-- what a read says of its entries. -/
theorem claimsOf_any {F : Nat → Prop} (ao : Option Addr) (n cap : Nat) (es : List En) (hl : es.length = n) (hn : n ≤ 100000) (w : World) (hr : EsR F w ao es) :
    Calls Try.prog 29 #[.slice ao n cap] w fun x w' => ∃ g, x = .returned (.slice (some ⟨g, 0, none⟩) n n) ∧ ClR w' (some ⟨g, 0, none⟩) (claimsFrom 0 es) ∧ Below w.heap.size w w' := by
  have mk := make_claims n (by omega) w
  obtain ⟨W, hW⟩ : ∃ W, w.alloc (.cells (madeCells zclaim (n * 3)) 64) = W := ⟨_, rfl⟩
  have bW : Below w.heap.size w W := by rw [← hW]; exact (Below.refl _ w).alloc (Nat.le_refl _) _
  have xW : W.heap[w.heap.size]? = some (.cells (madeCells zclaim (n * 3)) 64 (0, 0)) := by rw [← hW]; exact box_at _ _
  rw [hW] at mk
  obtain ⟨g, hg⟩ : ∃ g, w.heap.size = g := ⟨_, rfl⟩
  rw [hg] at mk xW bW
  have HG := hide hg
  have HR := hide hr
  have HL := hide hl
  have BW := hide bW
  have XW := hide xW
  clear hW bW xW hg hr hl
  go_enter Try.func29, Try.ntmps29
  go_wp2_with fail
  clear mk
  go_loopw [11, 4, 5] (fun i _ _ wr => ∃ (k : Nat) (cur : Array Value), k ≤ n ∧ i = .int .i64 k ∧ wr.heap[g]? = some (.cells cur 64 (0, 0)) ∧ ClF cur n k es ∧ Below g w wr) (fun i _ _ _ => n - (intOf i).toNat)
  case atStart => exact ⟨0, _, Nat.zero_le _, rfl, unhide XW, ⟨size_madeCells _ _, fun i e hi => by omega⟩, unhide BW⟩
  case round =>
    obtain ⟨k, cur, hk, rfl, hcur, hcl, hb⟩ := hrel
    have HC := hide hcur
    have HF := hide hcl
    have HB := hide hb
    clear hcur hcl hb
    by_cases hlt : k < n
    · obtain ⟨e, he⟩ : ∃ e, es[k]? = some e := ⟨_, List.getElem?_eq_getElem (by rw [unhide HL]; exact hlt)⟩
      obtain ⟨go, off, mo, mc, rfl, c0, c1, c2, c3, c4, c5, -, -⟩ := EsR.at (unhide HR) he
      have bb : Below w.heap.size w wr := by rw [unhide HG]; exact unhide HB
      replace c0 := (bb.cell (blk_lt c0)).trans c0
      replace c1 := (bb.cell (blk_lt c1)).trans c1
      replace c2 := (bb.cell (blk_lt c2)).trans c2
      replace c3 := (bb.cell (blk_lt c3)).trans c3
      replace c4 := (bb.cell (blk_lt c4)).trans c4
      replace c5 := (bb.cell (blk_lt c5)).trans c5
      have q : (k : Int) < n := by omega
      obtain ⟨V, hV, bV, xV⟩ := boxE wr e mo mc
      obtain ⟨y0, y1, y2, y3, y4, y5⟩ := six_of xV
      have RQ := hide (requestOf_any e mo mc V)
      have HV := hide hV
      have BV := hide bV
      have HE := hide he
      clear bb he hV bV xV
      go_upto_region 5 with fail
      rw [unhide HV]
      go_wp2_with fail
      refine (unhide RQ).mono ?_
      rintro z w1 ⟨rfl, b1⟩
      have b2 := below_far (unhide BV) b1
      have g1 := Below.stay b2 (unhide HC)
      have hsz := (unhide HF).1
      obtain ⟨u0, hu0⟩ : ∃ v, cur[k * 3]? = some v := ⟨_, Array.getElem?_eq_getElem (by omega)⟩
      have k0 : w1.cell? ⟨g, k * 3, none⟩ = some u0 := (cell_of_block g1).trans hu0
      obtain ⟨u1, hu1⟩ : ∃ v, cur[k * 3 + 1]? = some v := ⟨_, Array.getElem?_eq_getElem (by omega)⟩
      have k1 : w1.cell? ⟨g, k * 3 + 1, none⟩ = some u1 := (cell_of_block g1).trans hu1
      obtain ⟨u2, hu2⟩ : ∃ v, cur[k * 3 + 2]? = some v := ⟨_, Array.getElem?_eq_getElem (by omega)⟩
      have k2 : w1.cell? ⟨g, k * 3 + 2, none⟩ = some u2 := (cell_of_block g1).trans hu2
      have fz : ∀ i, w1.frozen? ⟨g, i, none⟩ = false := fun i => free_of_block g1
      have G1 := hide g1
      have B2 := hide b2
      clear b1 b2 g1 hsz hu0 hu1 hu2 c0 c1 c2 c3 c4 c5 y0 y1 y2 y3 y4 y5
      go_wp2
      go_roundw
      case rel => 
        refine ⟨k + 1, _, by omega, by go_num, ?_, (unhide HF).next (unhide HE) hlt, ?_⟩
        · exact setCell_block (setCell_block (setCell_block (unhide G1)))
        · exact ((((unhide HB).trans ((unhide B2).mono (by have := (unhide HB).size; have := unhide HG; omega))).setCell (p := ⟨g, k * 3, none⟩) (Nat.le_refl _) _).setCell (p := ⟨g, k * 3 + 1, none⟩) (Nat.le_refl _) _).setCell (p := ⟨g, k * 3 + 2, none⟩) (Nat.le_refl _) _
      case measure => simp [intOf]; omega
    · obtain rfl : k = n := by omega
      have q : ¬ (k : Int) < (k : Int) := by omega
      go_wp2
      go_ret
      exact ⟨g, rfl, (unhide HF).all (unhide HL) (unhide HC), by rw [unhide HG]; exact unhide HB⟩
end Go.Proofs.Ytndpkpkijfplaaa

/- slices.EqualFunc over wire.SameEntry, synodalref2.SameEntries, wire.sameConfig: contracts. -/
import Derived.Test.YtojmnlbdhpledaaDoorSame
import Derived.Test.YtojmnlbdhpledaaDoorCutsB
import Derived.Deep.RegionHeld3
import Derived.Deep.DrawnRows
namespace Go.Proofs.YtojmnlbdhpledaaDoor
open Go.RowKit
attribute [local go_sem ↓] Go.wp_at_zero Go.wp_at_succ

/-- the box of a message. -/
theorem mbox_cells {w : World} {B : Nat} {c0 c1 c2 c3 c4 c5 c6 c7 c8 c9 c10 c11 c12 : Value} {t : TypeId} {fr : Nat × Nat} (h : w.heap[B]? = some (.cells #[c0, c1, c2, c3, c4, c5, c6, c7, c8, c9, c10, c11, c12] t fr)) :
    w.cell? ⟨B, 0, none⟩ = some c0 ∧ w.cell? ⟨B, 1, none⟩ = some c1 ∧ w.cell? ⟨B, 2, none⟩ = some c2 ∧ w.cell? ⟨B, 3, none⟩ = some c3 ∧ w.cell? ⟨B, 4, none⟩ = some c4 ∧ w.cell? ⟨B, 5, none⟩ = some c5 ∧ w.cell? ⟨B, 6, none⟩ = some c6 ∧ w.cell? ⟨B, 7, none⟩ = some c7 ∧ w.cell? ⟨B, 8, none⟩ = some c8 ∧ w.cell? ⟨B, 9, none⟩ = some c9 ∧ w.cell? ⟨B, 10, none⟩ = some c10 ∧ w.cell? ⟨B, 11, none⟩ = some c11 ∧ w.cell? ⟨B, 12, none⟩ = some c12 :=
  ⟨(cell_of_block h).trans rfl, (cell_of_block h).trans rfl, (cell_of_block h).trans rfl, (cell_of_block h).trans rfl, (cell_of_block h).trans rfl, (cell_of_block h).trans rfl, (cell_of_block h).trans rfl, (cell_of_block h).trans rfl, (cell_of_block h).trans rfl, (cell_of_block h).trans rfl, (cell_of_block h).trans rfl, (cell_of_block h).trans rfl, (cell_of_block h).trans rfl⟩
def eqE (a b : En) : Bool := decide (a.kind = b.kind ∧ a.client = b.client ∧ a.seq = b.seq ∧ a.text = b.text ∧ a.ms = b.ms ∧ a.to = b.to)
theorem eqE_self (a : En) : eqE a a = true := by unfold eqE; simp
def sameEs (es fs : List En) : Bool := decide (es.length = fs.length ∧ ∀ i, i < es.length → eqE (es.getD i default) (fs.getD i default) = true)
theorem sameEs_self (es : List En) : sameEs es es = true := by unfold sameEs; simp [eqE_self]
theorem ent_two (w : World) (o o' : Obj) : ((w.alloc o).alloc o').heap[w.heap.size]? = some o ∧ ((w.alloc o).alloc o').heap[w.heap.size + 1]? = some o' ∧ Below w.heap.size w ((w.alloc o).alloc o') := by
  refine ⟨(Below.heap_alloc _ _ _ (by simp)).trans (heap_alloc_new _ _), by have := heap_alloc_new (w.alloc o) o'; simpa using this, ((Below.refl _ w).alloc (Nat.le_refl _) _).alloc (by simp) _⟩
theorem six_of {w : World} {B : Nat} {c0 c1 c2 c3 c4 c5 : Value} {t : TypeId} {fr : Nat × Nat} (h : w.heap[B]? = some (.cells #[c0, c1, c2, c3, c4, c5] t fr)) :
    w.cell? ⟨B, 0, none⟩ = some c0 ∧ w.cell? ⟨B, 1, none⟩ = some c1 ∧ w.cell? ⟨B, 2, none⟩ = some c2 ∧ w.cell? ⟨B, 3, none⟩ = some c3 ∧ w.cell? ⟨B, 4, none⟩ = some c4 ∧ w.cell? ⟨B, 5, none⟩ = some c5 :=
  ⟨(cell_of_block h).trans rfl, (cell_of_block h).trans rfl, (cell_of_block h).trans rfl, (cell_of_block h).trans rfl, (cell_of_block h).trans rfl, (cell_of_block h).trans rfl⟩

set_option maxRecDepth 20000 in
set_option maxHeartbeats 2000000 in
theorem rsameEntries_any (a b : Option Addr) (n m ca cb : Nat) (es fs : List En) (hx : es.length = n) (hy : fs.length = m) (hl : n ≤ 1000000) (hm : ∀ i, i < es.length → (es.getD i default).ms.length ≤ 1000000) (w : World) (ha : EntsAt w a es) (hb : EntsAt w b fs) :
    Calls Tryd.prog 46 #[.slice a n ca, .slice b m cb] w fun e w' => e = .returned (.bool (sameEs es fs)) ∧ Below w.heap.size w w' := by
  obtain ⟨R, hR⟩ : ∃ R, sameEs es fs = R := ⟨_, rfl⟩
  rw [hR]
  unfold sameEs at hR
  have HA := hide ha
  have HB := hide hb
  have HX := hide hx
  have HM := hide hm
  have HR := hide hR
  by_cases hnm : n = m
  · subst hnm
    have HY := hide hy
    clear ha hb hx hy hR hm
    go_enter Tryd.func46, Tryd.ntmps46
    go_wp2_with fail
    go_loopw [5] (fun iv wr => ∃ k : Nat, k ≤ n ∧ iv = .int .i64 (k : Int) ∧ (∀ j, j < k → eqE (es.getD j default) (fs.getD j default) = true) ∧ Below w.heap.size w wr) (fun iv _ => n - (intOf iv).toNat)
    case atStart => exact ⟨0, Nat.zero_le _, rfl, fun j hj => by omega, Below.refl _ _⟩
    case round =>
      obtain ⟨k, hk, rfl, hall, hbel⟩ := hrel
      have HALL := hide hall
      have BEL := hide hbel
      clear hall hbel
      by_cases hlt : k < n
      · have hke : k < es.length := by rw [unhide HX]; exact hlt
        have hkf : k < fs.length := by rw [unhide HY]; exact hlt
        obtain ⟨g1, o1, r1, x1, rfl, c0, c1, c2, c3, c4, c5, m1, -⟩ := (unhide HA).below (unhide BEL) k hke
        obtain ⟨g2, o2, r2, x2, rfl, d0, d1, d2, d3, d4, d5, m2, -⟩ := (unhide HB).below (unhide BEL) k hkf
        have hm1 := unhide HM k hke
        obtain ⟨e, he⟩ : ∃ e, es.getD k default = e := ⟨_, rfl⟩
        obtain ⟨f, hf⟩ : ∃ f, fs.getD k default = f := ⟨_, rfl⟩
        rw [he] at c0 c1 c2 c3 c4 c5 m1 hm1
        rw [hf] at d0 d1 d2 d3 d4 d5 m2
        have q : (k : Int) < (n : Int) := by omega
        have SE := hide (fun (Y : World) (hY : Below wr.heap.size wr Y) => rsameEntry_any e.kind e.client e.seq e.to f.kind f.client f.seq f.to e.text f.text r1 r2 e.ms.length f.ms.length x1 x2 e.ms f.ms rfl rfl (by omega) Y (IntsR.below (show IntsR wr r1 e.ms from m1) hY) (IntsR.below (show IntsR wr r2 f.ms from m2) hY))
        obtain ⟨v, hv⟩ : ∃ v, eqE e f = v := ⟨_, rfl⟩
        have hv' : decide (e.kind = f.kind ∧ e.client = f.client ∧ e.seq = f.seq ∧ e.text = f.text ∧ e.ms = f.ms ∧ e.to = f.to) = v := hv
        rw [hv'] at SE
        have HV : Hid (eqE (es.getD k default) (fs.getD k default) = v) := by show _ = _; rw [he, hf]; exact hv
        have SX := hide (fun (Y : World) (hY : Below wr.heap.size wr Y) => (And.intro ((hY.cell (blk_lt c0)).trans c0) (And.intro ((hY.cell (blk_lt c1)).trans c1) (And.intro ((hY.cell (blk_lt c2)).trans c2) (And.intro ((hY.cell (blk_lt c3)).trans c3) (And.intro ((hY.cell (blk_lt c4)).trans c4) (And.intro ((hY.cell (blk_lt c5)).trans c5) (And.intro ((hY.cell (blk_lt d0)).trans d0) (And.intro ((hY.cell (blk_lt d1)).trans d1) (And.intro ((hY.cell (blk_lt d2)).trans d2) (And.intro ((hY.cell (blk_lt d3)).trans d3) (And.intro ((hY.cell (blk_lt d4)).trans d4) ((hY.cell (blk_lt d5)).trans d5))))))))))))) 
        have S0 := unhide SX wr.drew ((Below.refl _ wr).drew)
        clear hv hv' he hf m1 m2 hm1 c0 c1 c2 c3 c4 c5 d0 d1 d2 d3 d4 d5 hke hkf
        cases v
        · obtain rfl : false = R := by rw [← unhide HR]; exact (decide_eq_false (fun h => by have := h.2 k (by rw [unhide HX]; exact hlt); rw [unhide HV] at this; cases this)).symm
          clear HR
          go_upto_region 6 with fail
          go_region_held3 (fun Y => Y.cell? ⟨g1, o1 + k * 6, none⟩ = some (.int .i64 e.kind) ∧ Y.cell? ⟨g1, o1 + k * 6 + 1, none⟩ = some (.int .i64 e.client) ∧ Y.cell? ⟨g1, o1 + k * 6 + 2, none⟩ = some (.int .i64 e.seq) ∧ Y.cell? ⟨g1, o1 + k * 6 + 3, none⟩ = some (.string e.text) ∧ Y.cell? ⟨g1, o1 + k * 6 + 4, none⟩ = some (.slice r1 e.ms.length x1) ∧ Y.cell? ⟨g1, o1 + k * 6 + 5, none⟩ = some (.int .i64 e.to) ∧ Y.cell? ⟨g2, o2 + k * 6, none⟩ = some (.int .i64 f.kind) ∧ Y.cell? ⟨g2, o2 + k * 6 + 1, none⟩ = some (.int .i64 f.client) ∧ Y.cell? ⟨g2, o2 + k * 6 + 2, none⟩ = some (.int .i64 f.seq) ∧ Y.cell? ⟨g2, o2 + k * 6 + 3, none⟩ = some (.string f.text) ∧ Y.cell? ⟨g2, o2 + k * 6 + 4, none⟩ = some (.slice r2 f.ms.length x2) ∧ Y.cell? ⟨g2, o2 + k * 6 + 5, none⟩ = some (.int .i64 f.to)) (first | exact S0 | exact unhide SX _ (unhide EZ) | fail)
            (first
              | (go_at_call 12
                 refine (unhide SE _ ((Below.refl _ wr).drew)).mono ?_
                 rintro x z ⟨rfl, bz⟩
                 have EZ := hide (((Below.refl wr.heap.size wr).drew).trans (bz.mono (Nat.le_refl _)))
                 clear bz)
              | fail)
          have B9 := hide ((unhide BEL).trans ((unhide EZ).mono (unhide BEL).size))
          go_wp2
          go_ret
          exact ⟨rfl, unhide B9⟩
        · go_upto_region 6 with fail
          go_region_held3 (fun Y => Y.cell? ⟨g1, o1 + k * 6, none⟩ = some (.int .i64 e.kind) ∧ Y.cell? ⟨g1, o1 + k * 6 + 1, none⟩ = some (.int .i64 e.client) ∧ Y.cell? ⟨g1, o1 + k * 6 + 2, none⟩ = some (.int .i64 e.seq) ∧ Y.cell? ⟨g1, o1 + k * 6 + 3, none⟩ = some (.string e.text) ∧ Y.cell? ⟨g1, o1 + k * 6 + 4, none⟩ = some (.slice r1 e.ms.length x1) ∧ Y.cell? ⟨g1, o1 + k * 6 + 5, none⟩ = some (.int .i64 e.to) ∧ Y.cell? ⟨g2, o2 + k * 6, none⟩ = some (.int .i64 f.kind) ∧ Y.cell? ⟨g2, o2 + k * 6 + 1, none⟩ = some (.int .i64 f.client) ∧ Y.cell? ⟨g2, o2 + k * 6 + 2, none⟩ = some (.int .i64 f.seq) ∧ Y.cell? ⟨g2, o2 + k * 6 + 3, none⟩ = some (.string f.text) ∧ Y.cell? ⟨g2, o2 + k * 6 + 4, none⟩ = some (.slice r2 f.ms.length x2) ∧ Y.cell? ⟨g2, o2 + k * 6 + 5, none⟩ = some (.int .i64 f.to)) (first | exact S0 | exact unhide SX _ (unhide EZ) | fail)
            (first
              | (go_at_call 12
                 refine (unhide SE _ ((Below.refl _ wr).drew)).mono ?_
                 rintro x z ⟨rfl, bz⟩
                 have EZ := hide (((Below.refl wr.heap.size wr).drew).trans (bz.mono (Nat.le_refl _)))
                 clear bz)
              | fail)
          have FIN : Hid ((∀ j, j < k + 1 → eqE (es.getD j default) (fs.getD j default) = true) ∧ Below w.heap.size w z) := ⟨fun j hj => by
            by_cases hjk : j < k
            · exact unhide HALL j hjk
            · obtain rfl : j = k := by omega
              exact unhide HV, (unhide BEL).trans ((unhide EZ).mono (unhide BEL).size)⟩
          go_wp2
          go_roundw
          case rel => exact ⟨k + 1, by omega, by go_num, unhide FIN⟩
          case measure => simp [intOf]; omega
      · obtain rfl : k = n := by omega
        obtain rfl : true = R := by rw [← unhide HR]; exact (decide_eq_true ⟨by rw [unhide HX, unhide HY], fun i hi => unhide HALL i (by rw [← unhide HX]; exact hi)⟩).symm
        have q : ¬ (k : Int) < (k : Int) := by omega
        go_wp2
        go_ret
        exact ⟨rfl, unhide BEL⟩
  · obtain rfl : false = R := by rw [← hR]; exact (decide_eq_false (fun h => hnm (by rw [← hx, ← hy]; exact h.1))).symm
    have q : ((n : Int) != (m : Int)) = true := by rw [bne_iff_ne]; omega
    clear ha hb hx hy hR hm
    go_enter Tryd.func46, Tryd.ntmps46
    go_wp2
    go_ret
    exact ⟨rfl, Below.refl _ _⟩
set_option maxRecDepth 20000 in
set_option maxHeartbeats 2000000 in
theorem equalFunc_any (a b : Option Addr) (n m ca cb : Nat) (es fs : List En) (hx : es.length = n) (hy : fs.length = m) (hl : n ≤ 1000000) (hm : ∀ i, i < es.length → (es.getD i default).ms.length ≤ 1000000) (w : World) (ha : EntsAt w a es) (hb : EntsAt w b fs) :
    Calls Tryd.prog 44 #[.slice a n ca, .slice b m cb, .func (.func 11) #[] #[]] w fun e w' => e = .returned (.bool (sameEs es fs)) ∧ Below w.heap.size w w' := by
  obtain ⟨R, hR⟩ : ∃ R, sameEs es fs = R := ⟨_, rfl⟩
  rw [hR]
  unfold sameEs at hR
  have HA := hide ha
  have HB := hide hb
  have HX := hide hx
  have HM := hide hm
  have HR := hide hR
  by_cases hnm : n = m
  · subst hnm
    have HY := hide hy
    clear ha hb hx hy hR hm
    go_enter Tryd.func44, Tryd.ntmps44
    go_wp2_with fail
    go_loopw [17, 7, 8, 9] (fun iv _ _ _ wr => ∃ k : Nat, k ≤ n ∧ iv = .int .i64 (k : Int) ∧ (∀ j, j < k → eqE (es.getD j default) (fs.getD j default) = true) ∧ Below w.heap.size w wr) (fun iv _ _ _ _ => n - (intOf iv).toNat)
    case atStart => exact ⟨0, Nat.zero_le _, rfl, fun j hj => by omega, Below.refl _ _⟩
    case round =>
      obtain ⟨k, hk, rfl, hall, hbel⟩ := hrel
      have HALL := hide hall
      have BEL := hide hbel
      clear hall hbel
      by_cases hlt : k < n
      · have hke : k < es.length := by rw [unhide HX]; exact hlt
        have hkf : k < fs.length := by rw [unhide HY]; exact hlt
        obtain ⟨g1, o1, r1, x1, rfl, c0, c1, c2, c3, c4, c5, m1, -⟩ := (unhide HA).below (unhide BEL) k hke
        obtain ⟨g2, o2, r2, x2, rfl, d0, d1, d2, d3, d4, d5, m2, -⟩ := (unhide HB).below (unhide BEL) k hkf
        have hm1 := unhide HM k hke
        obtain ⟨e, he⟩ : ∃ e, es.getD k default = e := ⟨_, rfl⟩
        obtain ⟨f, hf⟩ : ∃ f, fs.getD k default = f := ⟨_, rfl⟩
        rw [he] at c0 c1 c2 c3 c4 c5 m1 hm1
        rw [hf] at d0 d1 d2 d3 d4 d5 m2
        have q : (k : Int) < (n : Int) := by omega
        obtain ⟨Y1, hY1⟩ : ∃ Y1, wr.alloc (.cells #[.int .i64 e.kind, .int .i64 e.client, .int .i64 e.seq, .string e.text, .slice r1 e.ms.length x1, .int .i64 e.to] 24) = Y1 := ⟨_, rfl⟩
        have bY1 : Below wr.heap.size wr Y1 := by rw [← hY1]; exact (Below.refl _ wr).alloc (Nat.le_refl _) _
        have h1 : Y1.heap[wr.heap.size]? = some (.cells #[.int .i64 e.kind, .int .i64 e.client, .int .i64 e.seq, .string e.text, .slice r1 e.ms.length x1, .int .i64 e.to] 24 (0, 0)) := by rw [← hY1]; exact heap_alloc_new _ _
        have D0 := (bY1.cell (blk_lt d0)).trans d0
        have D1 := (bY1.cell (blk_lt d1)).trans d1
        have D2 := (bY1.cell (blk_lt d2)).trans d2
        have D3 := (bY1.cell (blk_lt d3)).trans d3
        have D4 := (bY1.cell (blk_lt d4)).trans d4
        have D5 := (bY1.cell (blk_lt d5)).trans d5
        obtain ⟨Y2, hY2⟩ : ∃ Y2, Y1.alloc (.cells #[.int .i64 f.kind, .int .i64 f.client, .int .i64 f.seq, .string f.text, .slice r2 f.ms.length x2, .int .i64 f.to] 24) = Y2 := ⟨_, rfl⟩
        have bY2 : Below Y1.heap.size Y1 Y2 := by rw [← hY2]; exact (Below.refl _ Y1).alloc (Nat.le_refl _) _
        have h2 : Y2.heap[Y1.heap.size]? = some (.cells #[.int .i64 f.kind, .int .i64 f.client, .int .i64 f.seq, .string f.text, .slice r2 f.ms.length x2, .int .i64 f.to] 24 (0, 0)) := by rw [← hY2]; exact heap_alloc_new _ _
        have h1' := (bY2.block _ (blk_lt' h1)).trans h1
        have bY := bY1.trans (bY2.mono bY1.size)
        obtain ⟨v, hv⟩ : ∃ v, eqE e f = v := ⟨_, rfl⟩
        have hv' : decide (e.kind = f.kind ∧ e.client = f.client ∧ e.seq = f.seq ∧ e.text = f.text ∧ e.ms = f.ms ∧ e.to = f.to) = v := hv
        have SE := hide (sameEntry_any e.kind e.client e.seq e.to f.kind f.client f.seq f.to e.text f.text r1 r2 e.ms.length f.ms.length x1 x2 e.ms f.ms rfl rfl (by omega) Y2 (IntsR.below (show IntsR wr r1 e.ms from m1) bY) (IntsR.below (show IntsR wr r2 f.ms from m2) bY))
        rw [hv'] at SE
        have HV : Hid (eqE (es.getD k default) (fs.getD k default) = v) := by show _ = _; rw [he, hf]; exact hv
        obtain ⟨p0, p1, p2, p3, p4, p5⟩ := six_of h1'
        obtain ⟨q0, q1, q2, q3, q4, q5⟩ := six_of h2
        have BY := hide ((unhide BEL).trans (bY.mono (unhide BEL).size))
        have HY1 := hide hY1
        have HY2 := hide hY2
        clear hv hv' he hf m1 m2 hm1 hke hkf hY1 hY2 bY1 bY2 bY h1 h2 h1' d0 d1 d2 d3 d4 d5
        go_upto_region 6 with fail
        rw [unhide HY1]
        go_upto_region 7 with fail
        rw [unhide HY2]
        clear HY1 HY2 c0 c1 c2 c3 c4 c5 D0 D1 D2 D3 D4 D5
        go_wp2_with fail
        refine (unhide SE).mono ?_
        rintro er z ⟨rfl, bz⟩
        have B9 := hide ((unhide BY).trans (bz.mono (unhide BY).size))
        clear bz p0 p1 p2 p3 p4 p5 q0 q1 q2 q3 q4 q5
        cases v
        · obtain rfl : false = R := by rw [← unhide HR]; exact (decide_eq_false (fun h => by have := h.2 k (by rw [unhide HX]; exact hlt); rw [unhide HV] at this; cases this)).symm
          clear HR
          go_wp2
          go_ret
          exact ⟨rfl, unhide B9⟩
        · have FIN : Hid ((∀ j, j < k + 1 → eqE (es.getD j default) (fs.getD j default) = true) ∧ Below w.heap.size w z) := ⟨fun j hj => by
            by_cases hjk : j < k
            · exact unhide HALL j hjk
            · obtain rfl : j = k := by omega
              exact unhide HV, unhide B9⟩
          go_wp2
          go_roundw
          case rel => exact ⟨k + 1, by omega, by go_num, unhide FIN⟩
          case measure => simp [intOf]; omega
      · obtain rfl : k = n := by omega
        obtain rfl : true = R := by rw [← unhide HR]; exact (decide_eq_true ⟨by rw [unhide HX, unhide HY], fun i hi => unhide HALL i (by rw [← unhide HX]; exact hi)⟩).symm
        have q : ¬ (k : Int) < (k : Int) := by omega
        go_wp2
        go_ret
        exact ⟨rfl, unhide BEL⟩
  · obtain rfl : false = R := by rw [← hR]; exact (decide_eq_false (fun h => hnm (by rw [← hx, ← hy]; exact h.1))).symm
    have q : ((n : Int) != (m : Int)) = true := by rw [bne_iff_ne]; omega
    clear ha hb hx hy hR hm
    go_enter Tryd.func44, Tryd.ntmps44
    go_wp2
    go_ret
    exact ⟨rfl, Below.refl _ _⟩

set_option maxRecDepth 20000 in
set_option maxHeartbeats 2000000 in
theorem sameConf_any (ao an bo bn : Option Addr) (no nn co cn mo mn po pn : Nat) (xs ys us vs : List Int) (h1 : xs.length = no) (h2 : ys.length = nn) (h3 : us.length = mo) (h4 : vs.length = mn) (l1 : no ≤ 1000000000) (l2 : nn ≤ 1000000000) (w : World) (k1 : IntsR w ao xs) (k2 : IntsR w an ys) (k3 : IntsR w bo us) (k4 : IntsR w bn vs) :
    Calls Tryd.prog 45 #[.agg #[.slice ao no co, .slice an nn cn], .agg #[.slice bo mo po, .slice bn mn pn]] w fun e w' => e = .returned (.bool (decide (xs = us ∧ ys = vs))) ∧ Below w.heap.size w w' := by
  obtain ⟨W, hW⟩ : ∃ W, (w.alloc (.cells #[.slice ao no co, .slice an nn cn] 39)).alloc (.cells #[.slice bo mo po, .slice bn mn pn] 39) = W := ⟨_, rfl⟩
  obtain ⟨x1, x2, bW⟩ := ent_two w (.cells #[.slice ao no co, .slice an nn cn] 39) (.cells #[.slice bo mo po, .slice bn mn pn] 39)
  rw [hW] at x1 x2 bW
  have E1 := hide (fun (Y : World) (hY : Below W.heap.size W Y) => equal_any ao bo no mo co po xs us h1 h3 l1 Y ((k1.below bW).below hY) ((k3.below bW).below hY))
  have E2 := hide (fun (Y : World) (hY : Below W.heap.size W Y) => equal_any an bn nn mn cn pn ys vs h2 h4 l2 Y ((k2.below bW).below hY) ((k4.below bW).below hY))
  have C1 := hide (fun (Y : World) (hY : Below W.heap.size W Y) => (And.intro ((cell_of_block ((hY.block _ (blk_lt' x1)).trans x1) (i := 0)).trans rfl) (And.intro ((cell_of_block ((hY.block _ (blk_lt' x1)).trans x1) (i := 1)).trans rfl) (And.intro ((cell_of_block ((hY.block _ (blk_lt' x2)).trans x2) (i := 0)).trans rfl) ((cell_of_block ((hY.block _ (blk_lt' x2)).trans x2) (i := 1)).trans rfl))) : Y.cell? ⟨w.heap.size, 0, none⟩ = some (.slice ao no co) ∧ Y.cell? ⟨w.heap.size, 1, none⟩ = some (.slice an nn cn) ∧ Y.cell? ⟨w.heap.size + 1, 0, none⟩ = some (.slice bo mo po) ∧ Y.cell? ⟨w.heap.size + 1, 1, none⟩ = some (.slice bn mn pn)))
  obtain ⟨a0, a1, b0, b1⟩ := unhide C1 W (Below.refl _ _)
  have HW := hide hW
  have BW := hide bW
  clear hW bW x1 x2 k1 k2 k3 k4 h1 h2 h3 h4
  by_cases g1 : xs = us
  · rw [decide_eq_true g1] at E1
    by_cases g2 : ys = vs
    · rw [decide_eq_true g2] at E2
      rw [decide_eq_true (And.intro g1 g2)]
      clear g1 g2
      go_enter Tryd.func45, Tryd.ntmps45
      go_upto_region 1 with fail
      rw [unhide HW]
      go_wp2_with fail
      refine (unhide E1 W (Below.refl _ _)).mono ?_
      rintro er w1 ⟨rfl, y1⟩
      obtain ⟨c0, c1, d0, d1⟩ := unhide C1 w1 y1
      have Y1 := hide y1
      clear y1
      go_wp2_with fail
      refine (unhide E2 w1 (unhide Y1)).mono ?_
      rintro er w2 ⟨rfl, y2⟩
      have B9 := hide ((unhide BW).trans (((unhide Y1).trans (y2.mono (unhide Y1).size)).mono (unhide BW).size))
      clear y2
      go_wp2
      go_ret
      exact ⟨rfl, unhide B9⟩
    · rw [decide_eq_false g2] at E2
      rw [decide_eq_false (fun h => g2 h.2)]
      clear g1 g2
      go_enter Tryd.func45, Tryd.ntmps45
      go_upto_region 1 with fail
      rw [unhide HW]
      go_wp2_with fail
      refine (unhide E1 W (Below.refl _ _)).mono ?_
      rintro er w1 ⟨rfl, y1⟩
      obtain ⟨c0, c1, d0, d1⟩ := unhide C1 w1 y1
      have Y1 := hide y1
      clear y1
      go_wp2_with fail
      refine (unhide E2 w1 (unhide Y1)).mono ?_
      rintro er w2 ⟨rfl, y2⟩
      have B9 := hide ((unhide BW).trans (((unhide Y1).trans (y2.mono (unhide Y1).size)).mono (unhide BW).size))
      clear y2
      go_wp2
      go_ret
      exact ⟨rfl, unhide B9⟩
  · rw [decide_eq_false g1] at E1
    rw [decide_eq_false (fun h => g1 h.1)]
    clear g1
    go_enter Tryd.func45, Tryd.ntmps45
    go_upto_region 1 with fail
    rw [unhide HW]
    go_wp2_with fail
    refine (unhide E1 W (Below.refl _ _)).mono ?_
    rintro er w1 ⟨rfl, y1⟩
    have B9 := hide ((unhide BW).trans (y1.mono (unhide BW).size))
    clear y1
    go_wp2
    go_ret
    exact ⟨rfl, unhide B9⟩
end Go.Proofs.YtojmnlbdhpledaaDoor

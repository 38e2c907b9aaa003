/- slices.EqualFunc over wire.SameEntry: a contract. -/
import Derived.Test.YtndpkpkijfplaaaGSame
import Derived.Test.YtndpkpkijfplaaaGPure
import Derived.Deep.RegionHeld3
import Derived.Deep.DrawnRows
namespace Go.Proofs.Ytndpkpkijfplaaa
open Go.RowKit Go.Maps
attribute [local go_sem ↓] Go.wp_at_zero Go.wp_at_succ

theorem ent_two (w : World) (o o' : Obj) : ((w.alloc o).alloc o').heap[w.heap.size]? = some o ∧ ((w.alloc o).alloc o').heap[w.heap.size + 1]? = some o' ∧ Below w.heap.size w ((w.alloc o).alloc o') := by
  refine ⟨(Below.heap_alloc _ _ _ (by simp)).trans (heap_alloc_new _ _), by have := heap_alloc_new (w.alloc o) o'; simpa using this, ((Below.refl _ w).alloc (Nat.le_refl _) _).alloc (by simp) _⟩
theorem six_of {w : World} {B : Nat} {c0 c1 c2 c3 c4 c5 : Value} {t : TypeId} {fr : Nat × Nat} (h : w.heap[B]? = some (.cells #[c0, c1, c2, c3, c4, c5] t fr)) :
    w.cell? ⟨B, 0, none⟩ = some c0 ∧ w.cell? ⟨B, 1, none⟩ = some c1 ∧ w.cell? ⟨B, 2, none⟩ = some c2 ∧ w.cell? ⟨B, 3, none⟩ = some c3 ∧ w.cell? ⟨B, 4, none⟩ = some c4 ∧ w.cell? ⟨B, 5, none⟩ = some c5 :=
  ⟨(cell_of_block h).trans rfl, (cell_of_block h).trans rfl, (cell_of_block h).trans rfl, (cell_of_block h).trans rfl, (cell_of_block h).trans rfl, (cell_of_block h).trans rfl⟩

set_option maxRecDepth 20000 in
set_option maxHeartbeats 2000000 in
theorem equalFunc_any (a b : Option Addr) (n m ca cb : Nat) {F G : Nat → Prop} (es fs : List En) (hx : es.length = n) (hy : fs.length = m) (hl : n ≤ 1000000) (w : World) (ha : EsR F w a es) (hb : EsR G w b fs) :
    Calls Try.prog 24 #[.slice a n ca, .slice b m cb, .func (.func 25) #[] #[]] w fun e w' => e = .returned (.bool (sameEs es fs)) ∧ Below w.heap.size w w' := by
  obtain ⟨R, hR⟩ : ∃ R, sameEs es fs = R := ⟨_, rfl⟩
  rw [hR]
  have HA := hide ha
  have HB := hide hb
  have HX := hide hx
  have HR := hide hR
  by_cases hnm : n = m
  · subst hnm
    have HY := hide hy
    clear ha hb hx hy hR
    go_enter Try.func24, Try.ntmps24
    go_wp2_with fail
    go_loopw [17, 7, 8, 9] (fun iv _ _ _ wr => ∃ k : Nat, k ≤ n ∧ iv = .int .i64 (k : Int) ∧ es.take k = fs.take k ∧ Below w.heap.size w wr) (fun iv _ _ _ _ => n - (intOf iv).toNat)
    case atStart => exact ⟨0, Nat.zero_le _, rfl, rfl, Below.refl _ _⟩
    case round =>
      obtain ⟨k, hk, rfl, hall, hbel⟩ := hrel
      have HALL := hide hall
      have BEL := hide hbel
      clear hall hbel
      by_cases hlt : k < n
      · have hke : k < es.length := by rw [unhide HX]; exact hlt
        have hkf : k < fs.length := by rw [unhide HY]; exact hlt
        obtain ⟨e, he⟩ : ∃ e, es[k]? = some e := ⟨_, List.getElem?_eq_getElem hke⟩
        obtain ⟨f, hf⟩ : ∃ f, fs[k]? = some f := ⟨_, List.getElem?_eq_getElem hkf⟩
        obtain ⟨g1, o1, r1, x1, rfl, c0, c1, c2, c3, c4, c5, m1, l1⟩ := EsR.at (unhide HA) he
        obtain ⟨g2, o2, r2, x2, rfl, d0, d1, d2, d3, d4, d5, m2, -⟩ := EsR.at (unhide HB) hf
        have bel := unhide BEL
        have c0 := (bel.cell (blk_lt c0)).trans c0
        have c1 := (bel.cell (blk_lt c1)).trans c1
        have c2 := (bel.cell (blk_lt c2)).trans c2
        have c3 := (bel.cell (blk_lt c3)).trans c3
        have c4 := (bel.cell (blk_lt c4)).trans c4
        have c5 := (bel.cell (blk_lt c5)).trans c5
        have d0 := (bel.cell (blk_lt d0)).trans d0
        have d1 := (bel.cell (blk_lt d1)).trans d1
        have d2 := (bel.cell (blk_lt d2)).trans d2
        have d3 := (bel.cell (blk_lt d3)).trans d3
        have d4 := (bel.cell (blk_lt d4)).trans d4
        have d5 := (bel.cell (blk_lt d5)).trans d5
        have m1 : IntsR wr r1 e.ms := m1.ints.below bel
        have m2 : IntsR wr r2 f.ms := m2.ints.below bel
        clear bel
        have q : (k : Int) < (n : Int) := by omega
        obtain ⟨Y1, hY1⟩ : ∃ Y1, wr.alloc (.cells #[.int .i64 e.kind, .int .i64 e.client, .int .i64 e.seq, .string e.text, .slice r1 e.ms.length x1, .int .i64 e.dest] 29) = Y1 := ⟨_, rfl⟩
        have bY1 : Below wr.heap.size wr Y1 := by rw [← hY1]; exact (Below.refl _ wr).alloc (Nat.le_refl _) _
        have h1 : Y1.heap[wr.heap.size]? = some (.cells #[.int .i64 e.kind, .int .i64 e.client, .int .i64 e.seq, .string e.text, .slice r1 e.ms.length x1, .int .i64 e.dest] 29 (0, 0)) := by rw [← hY1]; exact heap_alloc_new _ _
        have D0 := (bY1.cell (blk_lt d0)).trans d0
        have D1 := (bY1.cell (blk_lt d1)).trans d1
        have D2 := (bY1.cell (blk_lt d2)).trans d2
        have D3 := (bY1.cell (blk_lt d3)).trans d3
        have D4 := (bY1.cell (blk_lt d4)).trans d4
        have D5 := (bY1.cell (blk_lt d5)).trans d5
        obtain ⟨Y2, hY2⟩ : ∃ Y2, Y1.alloc (.cells #[.int .i64 f.kind, .int .i64 f.client, .int .i64 f.seq, .string f.text, .slice r2 f.ms.length x2, .int .i64 f.dest] 29) = Y2 := ⟨_, rfl⟩
        have bY2 : Below Y1.heap.size Y1 Y2 := by rw [← hY2]; exact (Below.refl _ Y1).alloc (Nat.le_refl _) _
        have h2 : Y2.heap[Y1.heap.size]? = some (.cells #[.int .i64 f.kind, .int .i64 f.client, .int .i64 f.seq, .string f.text, .slice r2 f.ms.length x2, .int .i64 f.dest] 29 (0, 0)) := by rw [← hY2]; exact heap_alloc_new _ _
        have h1' := (bY2.block _ (heap_lt h1)).trans h1
        have bY := bY1.trans (bY2.mono bY1.size)
        obtain ⟨v, hv⟩ : ∃ v, decide (sameP e f) = v := ⟨_, rfl⟩
        have hv' : decide (e.kind = f.kind ∧ e.client = f.client ∧ e.seq = f.seq ∧ e.text = f.text ∧ e.ms = f.ms ∧ e.dest = f.dest) = v := hv
        have SE := hide (sameEntry_any e.kind e.client e.seq e.dest f.kind f.client f.seq f.dest e.text f.text r1 r2 e.ms.length f.ms.length x1 x2 e.ms f.ms rfl rfl (by omega) Y2 (m1.below bY) (m2.below bY))
        rw [hv'] at SE
        have HV := hide hv
        have HE := hide he
        have HF := hide hf
        obtain ⟨p0, p1, p2, p3, p4, p5⟩ := six_of h1'
        obtain ⟨q0, q1, q2, q3, q4, q5⟩ := six_of h2
        have BY := hide ((unhide BEL).trans (bY.mono (unhide BEL).size))
        have HY1 := hide hY1
        have HY2 := hide hY2
        clear hv hv' he hf m1 m2 hke hkf l1 hY1 hY2 bY1 bY2 bY h1 h2 h1' d0 d1 d2 d3 d4 d5
        go_upto_region 6 with fail
        rw [unhide HY1]
        go_upto_region 7 with fail
        rw [unhide HY2]
        clear HY1 HY2 c0 c1 c2 c3 c4 c5 D0 D1 D2 D3 D4 D5
        go_wp2_with fail
        refine (unhide SE).mono ?_
        rintro er z ⟨rfl, bz⟩
        have B9 := hide ((unhide BY).trans (bz.mono (unhide BY).size))
        clear bz p0 p1 p2 p3 p4 p5 q0 q1 q2 q3 q4 q5
        cases v
        · obtain rfl : false = R := by rw [← unhide HR]; exact (sameEs_no (fun h => by
            have hf := unhide HF
            rw [← h, unhide HE] at hf
            cases hf
            exact of_decide_eq_false (unhide HV) (sameP_self e))).symm
          clear HR
          go_wp2
          go_ret
          exact ⟨rfl, unhide B9⟩
        · have FIN : Hid (es.take (k + 1) = fs.take (k + 1) ∧ Below w.heap.size w z) := ⟨by
            rw [List.take_add_one, List.take_add_one, unhide HE, unhide HF, unhide HALL, sameP_eq (of_decide_eq_true (unhide HV))], unhide B9⟩
          go_wp2
          go_roundw
          case rel => exact ⟨k + 1, by omega, by go_num, unhide FIN⟩
          case measure => simp [intOf]; omega
      · obtain rfl : k = n := by omega
        obtain rfl : true = R := by rw [← unhide HR]; exact ((sameEs_iff es fs).2 (by
            have h := unhide HALL
            rwa [List.take_of_length_le (by rw [unhide HX]; exact Nat.le_refl _), List.take_of_length_le (by rw [unhide HY]; exact Nat.le_refl _)] at h)).symm
        have q : ¬ (k : Int) < (k : Int) := by omega
        go_wp2
        go_ret
        exact ⟨rfl, unhide BEL⟩
  · obtain rfl : false = R := by rw [← hR]; exact (sameEs_no (fun h => hnm (by rw [← hx, ← hy, h]))).symm
    have q : ((n : Int) != (m : Int)) = true := by rw [bne_iff_ne]; omega
    clear ha hb hx hy hR
    go_enter Try.func24, Try.ntmps24
    go_wp2
    go_ret
    exact ⟨rfl, Below.refl _ _⟩

end Go.Proofs.Ytndpkpkijfplaaa

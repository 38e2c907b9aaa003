/- synodallaw2.fewMsg, exactly: a contract. -/
import Derived.Test.YtojmnlbdhpledaaDoorEntA
import Derived.Test.YtojmnlbdhpledaaDoorCutsB
namespace Go.Proofs.YtojmnlbdhpledaaDoor
open Go.RowKit

set_option maxRecDepth 20000 in
set_option maxHeartbeats 2000000 in
theorem fewMsg_is (x0 x1 x2 x3 x4 x5 x6 x7 : Int) (y : Bool) (aot aoe aoo aon : Option Addr) (nt ct ne ce no co nn cn : Nat) (es : List En) (hne : es.length = ne) (l1 : nt ≤ maxLen) (l2 : ne ≤ maxLen) (l3 : no ≤ maxLen) (l4 : nn ≤ maxLen) (w : World) (he : EntsAt w aoe es) :
    Calls Tryd.prog 15 #[.agg #[.int .i64 x0, .int .i64 x1, .int .i64 x2, .int .i64 x3, .int .i64 x4, .int .i64 x5, .int .i64 x6, .int .i64 x7, .bool y, .slice aot nt ct, .slice aoe ne ce, .slice aoo no co, .slice aon nn cn]] w fun e w' => e = .returned (.bool (decide ((∀ i, i < es.length → (es.getD i default).text.size < 300 ∧ (es.getD i default).ms.length < 100) ∧ ne < 100 ∧ nt < 100 ∧ no < 100 ∧ nn < 100))) ∧ Below w.heap.size w w' := by
  obtain ⟨F, hF⟩ : ∃ F, decide ((∀ i, i < es.length → (es.getD i default).text.size < 300 ∧ (es.getD i default).ms.length < 100) ∧ ne < 100 ∧ nt < 100 ∧ no < 100 ∧ nn < 100) = F := ⟨_, rfl⟩
  rw [hF]
  have HF := hide hF
  clear hF
  have l1' : nt ≤ 9223372036854775807 := l1
  have l2' : ne ≤ 9223372036854775807 := l2
  have l3' : no ≤ 9223372036854775807 := l3
  have l4' : nn ≤ 9223372036854775807 := l4
  obtain ⟨W, hW⟩ : ∃ W, w.alloc (.cells #[.int .i64 x0, .int .i64 x1, .int .i64 x2, .int .i64 x3, .int .i64 x4, .int .i64 x5, .int .i64 x6, .int .i64 x7, .bool y, .slice aot nt ct, .slice aoe ne ce, .slice aoo no co, .slice aon nn cn] 41) = W := ⟨_, rfl⟩
  have bW : Below w.heap.size w W := by rw [← hW]; exact (Below.refl _ w).alloc (Nat.le_refl _) _
  have hb : W.heap[w.heap.size]? = some (.cells #[.int .i64 x0, .int .i64 x1, .int .i64 x2, .int .i64 x3, .int .i64 x4, .int .i64 x5, .int .i64 x6, .int .i64 x7, .bool y, .slice aot nt ct, .slice aoe ne ce, .slice aoo no co, .slice aon nn cn] 41 (0, 0)) := by rw [← hW]; exact heap_alloc_new _ _
  have HW := hide hW
  have BW := hide bW
  have HB := hide hb
  have HE := hide (he.below bW)
  have HN := hide hne
  have zW : w.heap.size < W.heap.size := heap_lt hb
  clear l1 l2 l3 l4 hW bW hb he hne
  go_enter Tryd.func15, Tryd.ntmps15
  go_wp2_with fail
  rw [unhide HW]
  clear HW
  go_loopg [3] ne (fun g iv wr => ∃ j : Nat, j + g = ne ∧ iv = .int .i64 (j : Int) ∧ (∀ i, i < j → (es.getD i default).text.size < 300 ∧ (es.getD i default).ms.length < 100) ∧ Below W.heap.size W wr)
  case atStart => exact ⟨0, by omega, rfl, fun i hi => by omega, Below.refl _ _⟩
  case round =>
    obtain ⟨j, hj, rfl, hall, br⟩ := hrel
    have HA := hide hall
    clear hall
    have hbr := (br.block w.heap.size zW).trans (unhide HB)
    have c9 : wr.cell? ⟨w.heap.size, 9, none⟩ = some (.slice aot nt ct) := (cell_of_block hbr).trans rfl
    have c10 : wr.cell? ⟨w.heap.size, 10, none⟩ = some (.slice aoe ne ce) := (cell_of_block hbr).trans rfl
    have c11 : wr.cell? ⟨w.heap.size, 11, none⟩ = some (.slice aoo no co) := (cell_of_block hbr).trans rfl
    have c12 : wr.cell? ⟨w.heap.size, 12, none⟩ = some (.slice aon nn cn) := (cell_of_block hbr).trans rfl
    have BR := hide br
    have BE := hide ((unhide BW).trans (br.mono (by omega)))
    have HJ := hide hj
    have hjn : j ≤ ne := by omega
    clear hbr br hj
    by_cases hlt : j < ne ∧ j < 100
    · obtain ⟨h1, h2⟩ := hlt
      obtain ⟨blk, off, r, cx, rfl, e0, e1, e2, e3, e4, e5, _, t1, t2, t3, _⟩ := ((unhide HE).below (unhide BR)) j (by rw [unhide HN]; exact h1)
      obtain ⟨x, hx⟩ : ∃ x, es.getD j default = x := ⟨_, rfl⟩
      rw [hx] at e0 e1 e2 e3 e4 e5 t1 t2
      have HX := hide hx
      obtain ⟨nm, hnm⟩ : ∃ nm, x.ms.length = nm := ⟨_, rfl⟩
      rw [hnm] at e4 t2
      have FF := hide (few_is x.kind x.client x.seq x.«to» x.text r nm cx (Nat.le_trans t2 t3) t1 wr)
      have HNM := hide hnm
      clear hnm t1 t2 t3 hx
      go_wp2_with fail
      refine (unhide FF).mono ?_
      rintro e w2 ⟨rfl, b2⟩
      have B2 := hide ((unhide BR).trans (b2.mono (unhide BR).size))
      have B2w := hide ((unhide BE).trans (b2.mono (unhide BE).size))
      clear b2 FF
      by_cases hfw : x.text.size < 300 ∧ nm < 100
      · rw [decide_eq_true hfw]
        have HFW := hide hfw
        clear hfw
        go_wp2
        go_roundg (ne - (j + 1))
        case measure => have := unhide HJ; omega
        case rel =>
          refine ⟨j + 1, by omega, by go_num, fun i hi => ?_, unhide B2⟩
          by_cases hij : i < j
          · exact unhide HA i hij
          · obtain rfl : i = j := by omega
            rw [unhide HX, unhide HNM]; exact unhide HFW
      · have hFf : F = false := by
          rw [← unhide HF]
          refine decide_eq_false (fun h => hfw ?_)
          have := h.1 j (by rw [unhide HN]; exact h1)
          rw [unhide HX, unhide HNM] at this
          exact this
        subst hFf
        rw [decide_eq_false hfw]
        clear hfw
        go_wp2
        go_ret
        exact ⟨rfl, unhide B2w⟩
    · by_cases h1 : j < ne
      · have h2 : ¬ j < 100 := fun h => hlt ⟨h1, h⟩
        have a1 : ¬ ne < 100 := by omega
        have hFf : F = false := by rw [← unhide HF]; exact decide_eq_false (fun h => a1 h.2.1)
        subst hFf
        clear hlt
        go_wp2
        go_ret
        exact ⟨by first | (simp; omega) | simp, unhide BE⟩
      · clear hlt
        have hallE : ∀ i, i < es.length → (es.getD i default).text.size < 300 ∧ (es.getD i default).ms.length < 100 := fun i hi => unhide HA i (by rw [unhide HN] at hi; omega)
        by_cases hfin : ne < 100 ∧ nt < 100 ∧ no < 100 ∧ nn < 100
        · have hFt : F = true := by rw [← unhide HF]; exact decide_eq_true ⟨hallE, hfin⟩
          subst hFt
          obtain ⟨a1, a2, a3, a4⟩ := hfin
          clear hallE
          go_wp2
          go_ret
          exact ⟨by first | (simp; omega) | simp, unhide BE⟩
        · have hFf : F = false := by rw [← unhide HF]; exact decide_eq_false (fun h => hfin h.2)
          subst hFf
          clear hallE
          by_cases a1 : ne < 100
          · by_cases a2 : nt < 100
            · by_cases a3 : no < 100
              · have a4 : ¬ nn < 100 := fun h => hfin ⟨a1, a2, a3, h⟩
                clear hfin
                go_wp2
                go_ret
                exact ⟨by first | (simp; omega) | simp, unhide BE⟩
              · clear hfin
                go_wp2
                go_ret
                exact ⟨by first | (simp; omega) | simp, unhide BE⟩
            · clear hfin
              go_wp2
              go_ret
              exact ⟨by first | (simp; omega) | simp, unhide BE⟩
          · clear hfin
            go_wp2
            go_ret
            exact ⟨by first | (simp; omega) | simp, unhide BE⟩
end Go.Proofs.YtojmnlbdhpledaaDoor

/- synodallaw2.fewMsg: a contract. -/
import Derived.Test.YtojmnlbdhpledaaDoorCutsA
namespace Go.Proofs.YtojmnlbdhpledaaDoor
open Go.RowKit

/-- the entries of a slice, as they lie in memory. -/
def EntsAt (w : World) (ao : Option Addr) (es : List En) : Prop :=
  ∀ i, i < es.length → ∃ blk off r cx, ao = some ⟨blk, off, none⟩ ∧ w.cell? ⟨blk, off + i * 6, none⟩ = some (.int .i64 (es.getD i default).kind) ∧ w.cell? ⟨blk, off + i * 6 + 1, none⟩ = some (.int .i64 (es.getD i default).client) ∧ w.cell? ⟨blk, off + i * 6 + 2, none⟩ = some (.int .i64 (es.getD i default).seq) ∧
    w.cell? ⟨blk, off + i * 6 + 3, none⟩ = some (.string (es.getD i default).text) ∧ w.cell? ⟨blk, off + i * 6 + 4, none⟩ = some (.slice r (es.getD i default).ms.length cx) ∧ w.cell? ⟨blk, off + i * 6 + 5, none⟩ = some (.int .i64 (es.getD i default).to) ∧
    (∀ j, j < (es.getD i default).ms.length → ∃ a, r = some a ∧ w.cell? (a.add j) = some (.int .i64 ((es.getD i default).ms.getD j 0))) ∧ (es.getD i default).text.size ≤ maxLen ∧ (es.getD i default).ms.length ≤ cx ∧ cx ≤ maxLen ∧ (r = none → cx = 0)
theorem EntsAt.below {w w' : World} {ao : Option Addr} {es : List En} (h : EntsAt w ao es) (hb : Below w.heap.size w w') : EntsAt w' ao es := fun i hi => by
  obtain ⟨blk, off, r, cx, e, h0, h1, h2, h3, h4, h5, hm, ht⟩ := h i hi
  have hc : ∀ a u, w.cell? a = some u → w'.cell? a = some u := fun a u h => by rw [hb.cell (blk_lt h)]; exact h
  exact ⟨blk, off, r, cx, e, hc _ _ h0, hc _ _ h1, hc _ _ h2, hc _ _ h3, hc _ _ h4, hc _ _ h5, fun j hj => by obtain ⟨a, ea, hh⟩ := hm j hj; exact ⟨a, ea, hc _ _ hh⟩, ht⟩

/-- the cells of a message. -/
def mcells (x0 x1 x2 x3 x4 x5 x6 x7 : Int) (y : Bool) (v1 v2 v3 v4 : Value) : Array Value := #[.int .i64 x0, .int .i64 x1, .int .i64 x2, .int .i64 x3, .int .i64 x4, .int .i64 x5, .int .i64 x6, .int .i64 x7, .bool y, v1, v2, v3, v4]

set_option maxRecDepth 20000 in
set_option maxHeartbeats 2000000 in
theorem fewMsg_any (x0 x1 x2 x3 x4 x5 x6 x7 : Int) (y : Bool) (aot aoe aoo aon : Option Addr) (nt ct ne ce no co nn cn : Nat) (es : List En) (hne : es.length = ne) (l1 : nt ≤ maxLen) (l2 : ne ≤ maxLen) (l3 : no ≤ maxLen) (l4 : nn ≤ maxLen) (w : World) (he : EntsAt w aoe es) :
    Calls Tryd.prog 15 #[.agg #[.int .i64 x0, .int .i64 x1, .int .i64 x2, .int .i64 x3, .int .i64 x4, .int .i64 x5, .int .i64 x6, .int .i64 x7, .bool y, .slice aot nt ct, .slice aoe ne ce, .slice aoo no co, .slice aon nn cn]] w fun e w' => SomeBool e ∧ Below w.heap.size w w' := by
  have l1' : nt ≤ 9223372036854775807 := l1
  have l2' : ne ≤ 9223372036854775807 := l2
  have l3' : no ≤ 9223372036854775807 := l3
  have l4' : nn ≤ 9223372036854775807 := l4
  obtain ⟨W, hW⟩ : ∃ W, w.alloc (.cells #[.int .i64 x0, .int .i64 x1, .int .i64 x2, .int .i64 x3, .int .i64 x4, .int .i64 x5, .int .i64 x6, .int .i64 x7, .bool y, .slice aot nt ct, .slice aoe ne ce, .slice aoo no co, .slice aon nn cn] 41) = W := ⟨_, rfl⟩
  have bW : Below w.heap.size w W := by rw [← hW]; exact (Below.refl _ w).alloc (Nat.le_refl _) _
  have hb : W.heap[w.heap.size]? = some (.cells #[.int .i64 x0, .int .i64 x1, .int .i64 x2, .int .i64 x3, .int .i64 x4, .int .i64 x5, .int .i64 x6, .int .i64 x7, .bool y, .slice aot nt ct, .slice aoe ne ce, .slice aoo no co, .slice aon nn cn] 41 (0, 0)) := by rw [← hW]; exact heap_alloc_new _ _
  have HW := hide hW
  have BW := hide bW
  have HB := hide hb
  have HE := hide (he.below bW)
  have HN := hide hne
  have zW : w.heap.size < W.heap.size := heap_lt hb
  clear l1 l2 l3 l4 hW bW hb he hne
  go_enter Tryd.func15, Tryd.ntmps15
  go_wp2_with fail
  rw [unhide HW]
  clear HW
  go_loopg [3] ne (fun g iv wr => ∃ j : Nat, j + g = ne ∧ iv = .int .i64 (j : Int) ∧ Below W.heap.size W wr)
  case atStart => exact ⟨0, by omega, rfl, Below.refl _ _⟩
  case round =>
    obtain ⟨j, hj, rfl, br⟩ := hrel
    have hbr := (br.block w.heap.size zW).trans (unhide HB)
    have c9 : wr.cell? ⟨w.heap.size, 9, none⟩ = some (.slice aot nt ct) := (cell_of_block hbr).trans rfl
    have c10 : wr.cell? ⟨w.heap.size, 10, none⟩ = some (.slice aoe ne ce) := (cell_of_block hbr).trans rfl
    have c11 : wr.cell? ⟨w.heap.size, 11, none⟩ = some (.slice aoo no co) := (cell_of_block hbr).trans rfl
    have c12 : wr.cell? ⟨w.heap.size, 12, none⟩ = some (.slice aon nn cn) := (cell_of_block hbr).trans rfl
    have BR := hide br
    have BE := hide ((unhide BW).trans (br.mono (by omega)))
    have HJ := hide hj
    have hjn : j ≤ ne := by omega
    clear hbr br hj
    by_cases hlt : j < ne ∧ j < 100
    · obtain ⟨h1, h2⟩ := hlt
      obtain ⟨blk, off, r, cx, rfl, e0, e1, e2, e3, e4, e5, _, t1, t2, t3, _⟩ := ((unhide HE).below (unhide BR)) j (by rw [unhide HN]; exact h1)
      generalize es.getD j default = x at *
      obtain ⟨nm, hnm⟩ : ∃ nm, x.ms.length = nm := ⟨_, rfl⟩
      rw [hnm] at e4 t2
      have F := hide (few_any x.kind x.client x.seq x.to x.text r nm cx (Nat.le_trans t2 t3) t1 wr)
      clear hnm t1 t2 t3
      go_wp2_with fail
      refine (unhide F).mono ?_
      rintro e w2 ⟨⟨b, rfl⟩, b2⟩
      have B2 := hide ((unhide BR).trans (b2.mono (unhide BR).size))
      have B2w := hide ((unhide BE).trans (b2.mono (unhide BE).size))
      clear b2 F
      cases b with
      | true =>
        go_wp2
        go_roundg (ne - (j + 1))
        case measure => have := unhide HJ; omega
        case rel => exact ⟨j + 1, by omega, by go_num, unhide B2⟩
      | false =>
        go_wp2
        go_ret
        exact ⟨⟨_, rfl⟩, unhide B2w⟩
    · by_cases h1 : j < ne
      · have h2 : ¬ j < 100 := fun h => hlt ⟨h1, h⟩
        have a1 : ¬ ne < 100 := by omega
        clear hlt
        go_wp2
        go_ret
        exact ⟨⟨_, rfl⟩, unhide BE⟩
      · clear hlt
        by_cases a1 : ne < 100
        · by_cases a2 : nt < 100
          · by_cases a3 : no < 100
            · by_cases a4 : nn < 100
              · go_wp2
                go_ret
                exact ⟨⟨_, rfl⟩, unhide BE⟩
              · go_wp2
                go_ret
                exact ⟨⟨_, rfl⟩, unhide BE⟩
            · go_wp2
              go_ret
              exact ⟨⟨_, rfl⟩, unhide BE⟩
          · go_wp2
            go_ret
            exact ⟨⟨_, rfl⟩, unhide BE⟩
        · go_wp2
          go_ret
          exact ⟨⟨_, rfl⟩, unhide BE⟩
end Go.Proofs.YtojmnlbdhpledaaDoor

/- synodallaw5's State.put: a contract. -/
import Derived.Test.YtnagfoclbdlenaaGreatDoorCGood
namespace Go.Proofs.YtnagfoclbdlenaaGreatDoor
open Go.RowKit Go.Maps

/-- what a state's strings are. -/
def arr8 (f : Int → List Nat) : Array Value := #[.string (str (f 0)), .string (str (f 1)), .string (str (f 2)), .string (str (f 3)), .string (str (f 4)), .string (str (f 5)), .string (str (f 6)), .string (str (f 7))]
theorem arr8_set (f : Int → List Nat) (x : Nat) (hx : x < 8) (bs : List Nat) : (arr8 f).setIfInBounds x (.string (str bs)) = arr8 (upF f (x : Int) bs) := by
  match x, hx with
  | 0, _ => rfl
  | 1, _ => rfl
  | 2, _ => rfl
  | 3, _ => rfl
  | 4, _ => rfl
  | 5, _ => rfl
  | 6, _ => rfl
  | 7, _ => rfl
theorem arr8_at (f : Int → List Nat) (x : Nat) (hx : x < 8) : (arr8 f)[x]? = some (.string (str (f (x : Int)))) := by
  match x, hx with
  | 0, _ => rfl
  | 1, _ => rfl
  | 2, _ => rfl
  | 3, _ => rfl
  | 4, _ => rfl
  | 5, _ => rfl
  | 6, _ => rfl
  | 7, _ => rfl
/-- keys that there are. -/
def Keys (l : List (Int × List Nat)) : Prop := ∀ c ∈ l, 0 ≤ c.1 ∧ c.1 < 8

/-- eight stores into a box. -/
def box8 (y : World) (B : Nat) (v0 v1 v2 v3 v4 v5 v6 v7 : Value) : World := (((((((y.setCell ⟨B, 0, none⟩ v0).setCell ⟨B, 1, none⟩ v1).setCell ⟨B, 2, none⟩ v2).setCell ⟨B, 3, none⟩ v3).setCell ⟨B, 4, none⟩ v4).setCell ⟨B, 5, none⟩ v5).setCell ⟨B, 6, none⟩ v6).setCell ⟨B, 7, none⟩ v7
theorem box8_box {y : World} {B : Nat} {a0 a1 a2 a3 a4 a5 a6 a7 : Value} {t : TypeId} (hz : y.heap[B]? = some (.cells #[a0, a1, a2, a3, a4, a5, a6, a7] t (0, 0))) (v0 v1 v2 v3 v4 v5 v6 v7 : Value) : (box8 y B v0 v1 v2 v3 v4 v5 v6 v7).heap[B]? = some (.cells #[v0, v1, v2, v3, v4, v5, v6, v7] t (0, 0)) := by
  have z0 : ((y.setCell ⟨B, 0, none⟩ v0)).heap[B]? = some (.cells #[v0, a1, a2, a3, a4, a5, a6, a7] t (0, 0)) := setCell_block (p := B) (i := 0) hz
  have z1 : (((y.setCell ⟨B, 0, none⟩ v0).setCell ⟨B, 1, none⟩ v1)).heap[B]? = some (.cells #[v0, v1, a2, a3, a4, a5, a6, a7] t (0, 0)) := setCell_block (p := B) (i := 1) z0
  have z2 : ((((y.setCell ⟨B, 0, none⟩ v0).setCell ⟨B, 1, none⟩ v1).setCell ⟨B, 2, none⟩ v2)).heap[B]? = some (.cells #[v0, v1, v2, a3, a4, a5, a6, a7] t (0, 0)) := setCell_block (p := B) (i := 2) z1
  have z3 : (((((y.setCell ⟨B, 0, none⟩ v0).setCell ⟨B, 1, none⟩ v1).setCell ⟨B, 2, none⟩ v2).setCell ⟨B, 3, none⟩ v3)).heap[B]? = some (.cells #[v0, v1, v2, v3, a4, a5, a6, a7] t (0, 0)) := setCell_block (p := B) (i := 3) z2
  have z4 : ((((((y.setCell ⟨B, 0, none⟩ v0).setCell ⟨B, 1, none⟩ v1).setCell ⟨B, 2, none⟩ v2).setCell ⟨B, 3, none⟩ v3).setCell ⟨B, 4, none⟩ v4)).heap[B]? = some (.cells #[v0, v1, v2, v3, v4, a5, a6, a7] t (0, 0)) := setCell_block (p := B) (i := 4) z3
  have z5 : (((((((y.setCell ⟨B, 0, none⟩ v0).setCell ⟨B, 1, none⟩ v1).setCell ⟨B, 2, none⟩ v2).setCell ⟨B, 3, none⟩ v3).setCell ⟨B, 4, none⟩ v4).setCell ⟨B, 5, none⟩ v5)).heap[B]? = some (.cells #[v0, v1, v2, v3, v4, v5, a6, a7] t (0, 0)) := setCell_block (p := B) (i := 5) z4
  have z6 : ((((((((y.setCell ⟨B, 0, none⟩ v0).setCell ⟨B, 1, none⟩ v1).setCell ⟨B, 2, none⟩ v2).setCell ⟨B, 3, none⟩ v3).setCell ⟨B, 4, none⟩ v4).setCell ⟨B, 5, none⟩ v5).setCell ⟨B, 6, none⟩ v6)).heap[B]? = some (.cells #[v0, v1, v2, v3, v4, v5, v6, a7] t (0, 0)) := setCell_block (p := B) (i := 6) z5
  have z7 : (((((((((y.setCell ⟨B, 0, none⟩ v0).setCell ⟨B, 1, none⟩ v1).setCell ⟨B, 2, none⟩ v2).setCell ⟨B, 3, none⟩ v3).setCell ⟨B, 4, none⟩ v4).setCell ⟨B, 5, none⟩ v5).setCell ⟨B, 6, none⟩ v6).setCell ⟨B, 7, none⟩ v7)).heap[B]? = some (.cells #[v0, v1, v2, v3, v4, v5, v6, v7] t (0, 0)) := setCell_block (p := B) (i := 7) z6
  exact z7
theorem box8_below {w y : World} {B : Nat} (hb : Below w.heap.size w y) (hB : w.heap.size ≤ B) (v0 v1 v2 v3 v4 v5 v6 v7 : Value) : Below w.heap.size w (box8 y B v0 v1 v2 v3 v4 v5 v6 v7) := by
  unfold box8
  exact (((((((hb.setCell (p := ⟨B, 0, none⟩) hB v0).setCell (p := ⟨B, 1, none⟩) hB v1).setCell (p := ⟨B, 2, none⟩) hB v2).setCell (p := ⟨B, 3, none⟩) hB v3).setCell (p := ⟨B, 4, none⟩) hB v4).setCell (p := ⟨B, 5, none⟩) hB v5).setCell (p := ⟨B, 6, none⟩) hB v6).setCell (p := ⟨B, 7, none⟩) hB v7

set_option maxRecDepth 20000 in
set_option maxHeartbeats 4000000 in
theorem sput_any (f : Int → List Nat) (al : Option Addr) (n cl : Nat) (lst : List (Int × List Nat)) (hn : lst.length = n) (hmax : n ≤ 1000) (hk : Keys lst) (w : World) (h : CAt w al lst) :
    Calls Tryz.prog 15 #[.agg (arr8 f), .slice al n cl] w fun e w' => e = .returned (.agg (arr8 (setF f lst))) ∧ Below w.heap.size w w' := by
  obtain ⟨W, hW⟩ : ∃ W, (w.alloc (.cells (arr8 f) 34)).alloc (.cells #[.string ⟨#[]⟩, .string ⟨#[]⟩, .string ⟨#[]⟩, .string ⟨#[]⟩, .string ⟨#[]⟩, .string ⟨#[]⟩, .string ⟨#[]⟩, .string ⟨#[]⟩] 34) = W := ⟨_, rfl⟩
  obtain ⟨x1, x2, bW⟩ : W.heap[w.heap.size]? = some (.cells (arr8 f) 34 (0, 0)) ∧ W.heap[w.heap.size + 1]? = some (.cells #[.string ⟨#[]⟩, .string ⟨#[]⟩, .string ⟨#[]⟩, .string ⟨#[]⟩, .string ⟨#[]⟩, .string ⟨#[]⟩, .string ⟨#[]⟩, .string ⟨#[]⟩] 34 (0, 0)) ∧ Below w.heap.size w W := by rw [← hW]; exact heap2 w _ _
  have HH := hide h
  have EN := hide hn
  have HK := hide hk
  have BW := hide bW
  have X1 := hide x1
  have X2 := hide x2
  have HW := hide hW
  clear h hn hk bW x1 x2 hW
  go_enter Tryz.func15, Tryz.ntmps15
  go_upto_region 1 with fail
  rw [unhide HW]
  clear HW
  go_wp2_with fail
  go_loopw [5] (fun i wr => ∃ (k : Nat), k ≤ n ∧ i = .int .i64 k ∧ wr.heap[w.heap.size]? = some (.cells (arr8 (setF f (lst.take k))) 34 (0, 0)) ∧ wr.heap[w.heap.size + 1]? = some (.cells #[.string ⟨#[]⟩, .string ⟨#[]⟩, .string ⟨#[]⟩, .string ⟨#[]⟩, .string ⟨#[]⟩, .string ⟨#[]⟩, .string ⟨#[]⟩, .string ⟨#[]⟩] 34 (0, 0)) ∧ Below w.heap.size w wr) (fun i _ => n - (intOf i).toNat)
  case atStart => exact ⟨0, Nat.zero_le _, rfl, unhide X1, unhide X2, unhide BW⟩
  case round =>
    obtain ⟨k, hk, rfl, hx1, hx2, hbel⟩ := hrel
    by_cases hlt : k < n
    · have q1 : (k : Int) < n := by omega
      have hkl : k < lst.length := by rw [unhide EN]; exact hlt
      obtain ⟨⟨N, bs⟩, hkk⟩ : ∃ c, lst[k]? = some c := ⟨_, List.getElem?_eq_getElem hkl⟩
      have TS : Hid (setF f (lst.take (k + 1)) = upF (setF f (lst.take k)) N bs) := by
        show _ = _
        rw [List.take_add_one, hkk]
        exact setF_snoc f _ (N, bs)
      obtain ⟨hN0, hN8⟩ := unhide HK (N, bs) (List.mem_of_getElem? hkk)
      obtain ⟨x, rfl⟩ : ∃ x : Nat, N = (x : Int) := ⟨N.toNat, by have : 0 ≤ N := hN0; omega⟩
      have hx8 : x < 8 := by have : (x : Int) < 8 := hN8; omega
      have qx : (x : Int) < 8 := by omega
      obtain ⟨blk, off, r, cx, hal, d1, d2, hby, hr, hcx⟩ := unhide HH k _ bs hkk
      subst hal
      have blt : blk < w.heap.size := blk_lt d1
      have SX := hide (fun (Y : World) (h : Below w.heap.size w Y) => show Y.cell? ⟨blk, off + k * 2, none⟩ = some (.int .i64 (x : Int)) ∧ Y.cell? ⟨blk, off + k * 2 + 1, none⟩ = some (.slice r bs.length cx) from And.intro ((h.cell (blk_lt d1)).trans d1) ((h.cell (blk_lt d2)).trans d2))
      obtain ⟨F, hF⟩ : ∃ F, setF f (lst.take k) = F := ⟨_, rfl⟩
      rw [hF] at hx1 TS
      have cx0 : wr.drew.cell? ⟨w.heap.size, x, none⟩ = some (.string (str (F (x : Int)))) := (cell_of_block (w := wr.drew) (i := x) hx1).trans (arr8_at F x hx8)
      have cf0 : wr.drew.frozen? ⟨w.heap.size, x, none⟩ = false := free_of_block (w := wr.drew) hx1
      have cv := conv_str (w := wr.drew) (cap := cx) (hby.below hbel.drew) rfl
      have EZ := hide hbel.drew
      have HX1 := hide hx1
      have HX2 := hide hx2
      obtain ⟨bl, hbl⟩ : ∃ bl, bs.length = bl := ⟨_, rfl⟩
      rw [hbl] at SX cv
      clear d1 d2 hby hr hcx hkk hkl hF hN0 hN8 hx1 hx2 hbel hbl
      go_upto_region 4 with fail
      first
      | (go_region_held_law (fun Y => Y.cell? ⟨blk, off + k * 2, none⟩ = some (.int .i64 (x : Int)) ∧ Y.cell? ⟨blk, off + k * 2 + 1, none⟩ = some (.slice r bl cx))
          (first
            | exact unhide SX _ (unhide EZ)
            | exact unhide SX _ ((unhide EZ).setCell (p := ⟨w.heap.size, x, none⟩) (Nat.le_refl _) _))
          (first | fail))
      | fail
      all_goals
        go_wp2
        go_roundw
        case rel =>
          have e1 : (wr.drew.setCell ⟨w.heap.size, x, none⟩ (.string (str bs))).heap[w.heap.size]? = some (.cells (arr8 (upF F (x : Int) bs)) 34 (0, 0)) := by rw [← arr8_set F x hx8 bs]; exact setCell_block (w := wr.drew) (unhide HX1)
          have e2 : (wr.drew.setCell ⟨w.heap.size, x, none⟩ (.string (str bs))).heap[w.heap.size + 1]? = wr.heap[w.heap.size + 1]? := Below.heap_setCell wr.drew ⟨w.heap.size, x, none⟩ _ _ (by simp)
          exact ⟨k + 1, by omega, by go_num, by rw [unhide TS]; exact e1, e2.trans (unhide HX2), (unhide EZ).setCell (p := ⟨w.heap.size, x, none⟩) (Nat.le_refl _) _⟩
        case measure => simp [intOf]; omega
    · obtain rfl : k = n := by omega
      have et : lst.take k = lst := by rw [← unhide EN, List.take_length]
      rw [et] at hx1
      obtain ⟨F, hF⟩ : ∃ F, setF f lst = F := ⟨_, rfl⟩
      rw [hF] at hx1
      have HF := hide hF
      have c0 : wr.cell? ⟨w.heap.size, 0, none⟩ = some (.string (str (F 0))) := (cell_of_block hx1).trans rfl
      have c1 : wr.cell? ⟨w.heap.size, 1, none⟩ = some (.string (str (F 1))) := (cell_of_block hx1).trans rfl
      have c2 : wr.cell? ⟨w.heap.size, 2, none⟩ = some (.string (str (F 2))) := (cell_of_block hx1).trans rfl
      have c3 : wr.cell? ⟨w.heap.size, 3, none⟩ = some (.string (str (F 3))) := (cell_of_block hx1).trans rfl
      have c4 : wr.cell? ⟨w.heap.size, 4, none⟩ = some (.string (str (F 4))) := (cell_of_block hx1).trans rfl
      have c5 : wr.cell? ⟨w.heap.size, 5, none⟩ = some (.string (str (F 5))) := (cell_of_block hx1).trans rfl
      have c6 : wr.cell? ⟨w.heap.size, 6, none⟩ = some (.string (str (F 6))) := (cell_of_block hx1).trans rfl
      have c7 : wr.cell? ⟨w.heap.size, 7, none⟩ = some (.string (str (F 7))) := (cell_of_block hx1).trans rfl
      have r0 : wr.cell? ⟨w.heap.size + 1, 0, none⟩ = some (.string ⟨#[]⟩) := (cell_of_block hx2).trans rfl
      have g0 : wr.frozen? ⟨w.heap.size + 1, 0, none⟩ = false := free_of_block hx2
      have r1 : wr.cell? ⟨w.heap.size + 1, 1, none⟩ = some (.string ⟨#[]⟩) := (cell_of_block hx2).trans rfl
      have g1 : wr.frozen? ⟨w.heap.size + 1, 1, none⟩ = false := free_of_block hx2
      have r2 : wr.cell? ⟨w.heap.size + 1, 2, none⟩ = some (.string ⟨#[]⟩) := (cell_of_block hx2).trans rfl
      have g2 : wr.frozen? ⟨w.heap.size + 1, 2, none⟩ = false := free_of_block hx2
      have r3 : wr.cell? ⟨w.heap.size + 1, 3, none⟩ = some (.string ⟨#[]⟩) := (cell_of_block hx2).trans rfl
      have g3 : wr.frozen? ⟨w.heap.size + 1, 3, none⟩ = false := free_of_block hx2
      have r4 : wr.cell? ⟨w.heap.size + 1, 4, none⟩ = some (.string ⟨#[]⟩) := (cell_of_block hx2).trans rfl
      have g4 : wr.frozen? ⟨w.heap.size + 1, 4, none⟩ = false := free_of_block hx2
      have r5 : wr.cell? ⟨w.heap.size + 1, 5, none⟩ = some (.string ⟨#[]⟩) := (cell_of_block hx2).trans rfl
      have g5 : wr.frozen? ⟨w.heap.size + 1, 5, none⟩ = false := free_of_block hx2
      have r6 : wr.cell? ⟨w.heap.size + 1, 6, none⟩ = some (.string ⟨#[]⟩) := (cell_of_block hx2).trans rfl
      have g6 : wr.frozen? ⟨w.heap.size + 1, 6, none⟩ = false := free_of_block hx2
      have r7 : wr.cell? ⟨w.heap.size + 1, 7, none⟩ = some (.string ⟨#[]⟩) := (cell_of_block hx2).trans rfl
      have g7 : wr.frozen? ⟨w.heap.size + 1, 7, none⟩ = false := free_of_block hx2
      have e8 := box8_box hx2 (.string (str (F 0))) (.string (str (F 1))) (.string (str (F 2))) (.string (str (F 3))) (.string (str (F 4))) (.string (str (F 5))) (.string (str (F 6))) (.string (str (F 7)))
      have b8 := box8_below hbel (Nat.le_succ w.heap.size) (.string (str (F 0))) (.string (str (F 1))) (.string (str (F 2))) (.string (str (F 3))) (.string (str (F 4))) (.string (str (F 5))) (.string (str (F 6))) (.string (str (F 7)))
      obtain ⟨Z, hZ⟩ : ∃ Z, box8 wr (w.heap.size + 1) (.string (str (F 0))) (.string (str (F 1))) (.string (str (F 2))) (.string (str (F 3))) (.string (str (F 4))) (.string (str (F 5))) (.string (str (F 6))) (.string (str (F 7))) = Z := ⟨_, rfl⟩
      rw [hZ] at e8 b8
      unfold box8 at hZ
      have E8 := hide e8
      have B8 := hide b8
      have HZ := hide hZ
      clear hx1 hx2 hbel e8 b8 et hF hZ
      go_wp2
      rw [unhide HZ]
      have q0 : Z.cell? ⟨w.heap.size + 1, 0, none⟩ = some (.string (str (F 0))) := (cell_of_block (unhide E8)).trans rfl
      have q1 : Z.cell? ⟨w.heap.size + 1, 1, none⟩ = some (.string (str (F 1))) := (cell_of_block (unhide E8)).trans rfl
      have q2 : Z.cell? ⟨w.heap.size + 1, 2, none⟩ = some (.string (str (F 2))) := (cell_of_block (unhide E8)).trans rfl
      have q3 : Z.cell? ⟨w.heap.size + 1, 3, none⟩ = some (.string (str (F 3))) := (cell_of_block (unhide E8)).trans rfl
      have q4 : Z.cell? ⟨w.heap.size + 1, 4, none⟩ = some (.string (str (F 4))) := (cell_of_block (unhide E8)).trans rfl
      have q5 : Z.cell? ⟨w.heap.size + 1, 5, none⟩ = some (.string (str (F 5))) := (cell_of_block (unhide E8)).trans rfl
      have q6 : Z.cell? ⟨w.heap.size + 1, 6, none⟩ = some (.string (str (F 6))) := (cell_of_block (unhide E8)).trans rfl
      have q7 : Z.cell? ⟨w.heap.size + 1, 7, none⟩ = some (.string (str (F 7))) := (cell_of_block (unhide E8)).trans rfl
      refine bodyPost_ret (v := .agg (arr8 F)) (by simp [arr8, results, Tryz.results15, go_sem, q0, q1, q2, q3, q4, q5, q6, q7]) rfl ⟨by rw [unhide HF], unhide B8⟩
end Go.Proofs.YtnagfoclbdlenaaGreatDoor

/- synodallaw5's holds: a contract. -/
import Derived.Test.YtnagfoclbdlenaaGreatDoorCStat
namespace Go.Proofs.YtnagfoclbdlenaaGreatDoor
open Go.RowKit Go.Maps

/-- how many cells with bytes there are ahead of the k-th. -/
def cntF (f : Int → List Nat) (k : Nat) : Nat := ((([0, 1, 2, 3, 4, 5, 6, 7] : List Int).take k).filter fun n => !(f n).isEmpty).length
theorem cnt_all (f : Int → List Nat) : cntF f 8 = (cellsOf f).length := by unfold cntF cellsOf keysOf; rw [List.length_map]; rfl
theorem eight_at (k : Nat) (hk : k < 8) : ([0, 1, 2, 3, 4, 5, 6, 7] : List Int)[k]? = some (k : Int) := by
  match k, hk with
  | 0, _ => rfl
  | 1, _ => rfl
  | 2, _ => rfl
  | 3, _ => rfl
  | 4, _ => rfl
  | 5, _ => rfl
  | 6, _ => rfl
  | 7, _ => rfl
theorem cnt_le (f : Int → List Nat) (k : Nat) : cntF f k ≤ 8 := by
  unfold cntF
  refine Nat.le_trans (List.length_filter_le _ _) ?_
  rw [List.length_take]
  exact Nat.min_le_right _ _
theorem cnt_none {f : Int → List Nat} {k : Nat} (hk : k < 8) (h : f (k : Int) = []) : cntF f (k + 1) = cntF f k := by
  unfold cntF
  rw [List.take_add_one, eight_at k hk, List.filter_append, List.length_append]
  simp [h]
theorem cnt_some {f : Int → List Nat} {k : Nat} (hk : k < 8) (h : f (k : Int) ≠ []) : cntF f (k + 1) = cntF f k + 1 := by
  unfold cntF
  rw [List.take_add_one, eight_at k hk, List.filter_append, List.length_append]
  simp [h]
theorem cnt_at {f : Int → List Nat} {k : Nat} (hk : k < 8) (h : f (k : Int) ≠ []) : (cellsOf f)[cntF f k]? = some ((k : Int), f (k : Int)) := by
  have e2 : keysOf f = ((([0, 1, 2, 3, 4, 5, 6, 7] : List Int).take k).filter fun n => !(f n).isEmpty) ++ ((k : Int) :: (([0, 1, 2, 3, 4, 5, 6, 7] : List Int).drop (k + 1)).filter fun n => !(f n).isEmpty) := by
    have e : keysOf f = ((([0, 1, 2, 3, 4, 5, 6, 7] : List Int).take (k + 1)).filter fun n => !(f n).isEmpty) ++ ((([0, 1, 2, 3, 4, 5, 6, 7] : List Int).drop (k + 1)).filter fun n => !(f n).isEmpty) := by
      rw [← List.filter_append, List.take_append_drop]; rfl
    rw [e, List.take_add_one, eight_at k hk, List.filter_append, List.append_assoc]
    simp [h]
  unfold cellsOf
  rw [List.getElem?_map, e2, List.getElem?_append_right (by exact Nat.le_refl _)]
  simp [cntF]
theorem str_nil : str [] = ⟨#[]⟩ := rfl
theorem str_some {bs : List Nat} (h : bs ≠ []) : str bs ≠ ⟨#[]⟩ := fun e => by
  cases bs with
  | nil => exact h rfl
  | cons x xs =>
    have := congrArg ByteArray.size e
    simp [str, strOfNums, ByteArray.size] at this

theorem str_ne {a b : ByteArray} (h : a ≠ b) : (a.toList == b.toList) = false := by
  rw [ByteArray.toList_eq, ByteArray.toList_eq]
  refine beq_eq_false_iff_ne.2 fun e => h ?_
  cases a; cases b
  exact congrArg ByteArray.mk (Array.toList_inj.1 e)
theorem str_more {a : ByteArray} (h : a ≠ ⟨#[]⟩) : a.toList.isEmpty = false := by
  rw [ByteArray.toList_eq]
  cases a with
  | mk d =>
    cases e : d.toList with
    | nil => exact absurd (congrArg ByteArray.mk (Array.toList_inj.1 (e.trans rfl))) h
    | cons _ _ => rfl
theorem hget {base : Nat} {w0 : World} {cp l p : Nat} {g a : Addr} {f : Int → List Nat} {k : Nat} (x : Int) (hx : -10 ≤ x ∧ x < 10) (w : World) (h : Good base w0 w cp l p g a f k) :
    Calls Tryz.prog 22 #[.pointer (some ⟨cp, 0, none⟩), .int .i64 x] w fun e w' => ∃ v, e = .returned v ∧ Own w.heap.size w' v (f x) ∧ Below w.heap.size w w' := by
  obtain ⟨b, c, q, n, ops, h1, h2, h3, h4, h5, -⟩ := h
  refine (get_any x (wf_small64 (by omega)) w h1 (Nat.le_trans (h5 x) (by decide))).mono ?_
  rintro e w' ⟨v, rfl, ov, -, b'⟩
  exact ⟨v, rfl, ov, b'⟩
theorem hall {base : Nat} {w0 : World} {cp l p : Nat} {g a : Addr} {f : Int → List Nat} {k : Nat} (hk : k ≤ 1000) (w : World) (h : Good base w0 w cp l p g a f k) :
    Calls Tryz.prog 23 #[.pointer (some ⟨cp, 0, none⟩)] w fun e w' => ∃ ao cap, e = .returned (.slice ao (cellsOf f).length cap) ∧ CAt w' ao (cellsOf f) ∧ Below w.heap.size w w' := by
  obtain ⟨b, c, q, n, ops, h1, h2, h3, h4, h5, h6, -⟩ := h
  refine (all_any w h1 (by omega) (fun x => Nat.le_trans (h5 x) (by decide))).mono ?_
  rintro e w' ⟨v, rfl, rv, b'⟩
  obtain ⟨ao, cap, rfl, -, -, -, ha⟩ := rv.at
  exact ⟨ao, cap, rfl, ha, b'⟩
theorem Good.none {base : Nat} {w0 w : World} {cp l p : Nat} {g a : Addr} {f : Int → List Nat} {k : Nat} (h : Good base w0 w cp l p g a f k) {x : Int} (hx : ¬ (0 ≤ x ∧ x < 8)) : (f x).length = 0 := by
  obtain ⟨b, c, q, n, ops, h1, h2, h3, h4, h5, h6, -⟩ := h
  by_cases e : f x = []
  · rw [e]; rfl
  · exact absurd (h4 x e) hx

set_option maxRecDepth 20000 in
set_option maxHeartbeats 4000000 in
theorem holds_any {base : Nat} {w0 : World} {cp l p : Nat} {g a : Addr} {f F : Int → List Nat} {k : Nat} (hk : k ≤ 1000) (w : World) (h : Good base w0 w cp l p g a f k) :
    Calls Tryz.prog 16 #[.pointer (some ⟨cp, 0, none⟩), .agg (arr8 F)] w fun e w' => e = .returned (.bool (decide (∀ j : Nat, j < 8 → str (f j) = str (F j)))) ∧ Below w.heap.size w w' := by
  obtain ⟨W, hW⟩ : ∃ W, w.alloc (.cells (arr8 F) 34) = W := ⟨_, rfl⟩
  have bW : Below w.heap.size w W := by rw [← hW]; exact (Below.refl _ w).alloc (Nat.le_refl _) _
  have xW : W.heap[w.heap.size]? = some (.cells (arr8 F) 34 (0, 0)) := by rw [← hW]; exact heap_alloc_new _ _
  have AL := hide (hall hk W (h.below bW))
  have GW := hide (fun (Y : World) (hY : Below W.heap.size W Y) => (h.below bW).below hY)
  have E8 : Hid ((f 8).length = 0) := h.none (by omega)
  have E9 : Hid ((f (-1)).length = 0) := h.none (by omega)
  have HW := hide hW
  have BW := hide bW
  have XW := hide xW
  obtain ⟨L, hL⟩ : ∃ L, (cellsOf f).length = L := ⟨_, rfl⟩
  have CL : Hid (cntF f 8 = L) := (cnt_all f).trans hL
  have AT := hide (fun (m : Nat) (hm : m < 8) (h : f (m : Int) ≠ []) => cnt_at hm h)
  have L8 : L ≤ 8 := by rw [← hL]; exact cells_len f
  obtain ⟨C, hC⟩ : ∃ C, cellsOf f = C := ⟨_, rfl⟩
  rw [hL, hC] at AL
  rw [hC] at AT hL
  have HL := hide hL
  clear h hk hW bW xW hL hC
  go_enter Tryz.func16, Tryz.ntmps16
  go_wp2_with fail
  rw [unhide HW]
  refine (unhide AL).mono ?_
  rintro e w1 ⟨ao, cap, rfl, a1, b1⟩
  have A1 := hide a1
  have B1 := hide b1
  have BX := hide (fun (m : Nat) (hm : m < 8) (Y : World) (hY : Below w1.heap.size w1 Y) => show Y.cell? ⟨w.heap.size, m, none⟩ = some (.string (str (F (m : Int)))) from by
    have z := (b1.block _ (blk_lt' (unhide XW))).trans (unhide XW)
    have z2 := (hY.block _ (blk_lt' z)).trans z
    exact (cell_of_block z2).trans (arr8_at F m hm))
  have G1 := hide (fun (Y : World) (hY : Below w1.heap.size w1 Y) => unhide GW Y (b1.trans (hY.mono b1.size)))
  have EN := hide (fun (Y : World) (hY : Below w1.heap.size w1 Y) => show Below w.heap.size w Y from (unhide BW).trans ((b1.trans (hY.mono b1.size)).mono (unhide BW).size))
  clear a1 b1 AL GW HW B1 BW XW
  go_wp2_with fail
  go_loopw [6, 7] (fun nn kk wr => ∃ m : Nat, m ≤ 8 ∧ kk = .int .i64 m ∧ nn = .int .i64 (cntF f m : Nat) ∧ (∀ j : Nat, j < m → str (f j) = str (F j)) ∧ Below w1.heap.size w1 wr) (fun _ kk _ => 8 - (intOf kk).toNat)
  case atStart => exact ⟨0, Nat.zero_le _, rfl, rfl, fun j hj => absurd hj (Nat.not_lt_zero j), Below.refl _ _⟩
  case round =>
    obtain ⟨m, hm, rfl, rfl, hlow, hbel⟩ := hrel
    by_cases hlt : m < 8
    · have q1 : (m : Int) < 8 := by omega
      have GT := hide (hget (m : Int) (by omega) wr.drew (unhide G1 _ hbel.drew))
      have EZ := hide hbel.drew
      have SX := hide (unhide BX m hlt)
      have LOW := hide hlow
      obtain ⟨sf, hsf⟩ : ∃ sf, str (f (m : Int)) = sf := ⟨_, rfl⟩
      obtain ⟨sF, hsF⟩ : ∃ sF, str (F (m : Int)) = sF := ⟨_, rfl⟩
      rw [hsF] at SX
      have HSF := hide hsf
      have HSFF := hide hsF
      obtain ⟨fl, hfl⟩ : ∃ fl, (f (m : Int)).length = fl := ⟨_, rfl⟩
      have HFL := hide hfl
      obtain ⟨cn, hcn⟩ : ∃ cn, cntF f m = cn := ⟨_, rfl⟩
      have cn8 : cn ≤ 8 := by rw [← hcn]; exact cnt_le f m
      rw [hcn]
      have HCN := hide hcn
      clear hlow hbel hsf hsF hfl hcn
      by_cases hs : sf = sF
      · subst hs
        go_upto_region 6 with fail
        first
        | (go_region_held_law (fun Y => Y.cell? ⟨w.heap.size, m, none⟩ = some (.string sf))
            (first
              | exact unhide SX _ (unhide EZ)
              | exact unhide SX _ (unhide E6))
            (first
              | (go_at_call 22
                 refine (unhide GT).mono ?_
                 rintro e w6 ⟨v6, rfl, o6, b6⟩
                 obtain ⟨a6, c6, rfl, -, -, y6, -, -⟩ := o6.slice
                 have E6 := hide ((unhide EZ).trans (b6.mono (unhide EZ).size))
                 have cv6 := conv_str (n := fl) (cap := c6) y6 (unhide HFL)
                 rw [unhide HSF] at cv6
                 rw [unhide HFL]
                 clear o6 b6 y6)))
        | fail
        all_goals
          by_cases he : f (m : Int) = []
          · have hz : sf = ⟨#[]⟩ := by rw [← unhide HSF, he]; rfl
            subst hz
            have bx := unhide SX _ (unhide E6)
            have NX : Hid (cntF f (m + 1) = cn) := (cnt_none hlt he).trans (unhide HCN)
            have LW : Hid (∀ j : Nat, j < m + 1 → str (f j) = str (F j)) := fun j hj => by
              by_cases e : j = m
              · rw [e, unhide HSF, unhide HSFF]
              · exact unhide LOW j (by omega)
            clear GT cv6 he
            go_wp2
            go_roundw
            case rel => exact ⟨m + 1, by omega, by go_num, by rw [unhide NX], unhide LW, unhide E6⟩
            case measure => simp [intOf]; omega
          · have hz : sf.toList.isEmpty = false := str_more (by rw [← unhide HSF]; exact str_some he)
            obtain ⟨blk, off, r, cx, hal, d1, d2, hby, -, -⟩ := unhide A1 cn (m : Int) (f (m : Int)) (by rw [← unhide HCN]; exact unhide AT m hlt he)
            subst hal
            have RX := hide (fun (Y : World) (h : Below w1.heap.size w1 Y) => show Y.cell? ⟨blk, off + cn * 2, none⟩ = some (.int .i64 (m : Int)) ∧ Y.cell? ⟨blk, off + cn * 2 + 1, none⟩ = some (.slice r fl cx) from And.intro ((h.cell (blk_lt d1)).trans d1) ((h.cell (blk_lt d2)).trans (by rw [← unhide HFL]; exact d2)))
            have cnl : cn < L := by
              have := (List.getElem?_eq_some_iff.1 (unhide AT m hlt he)).1
              rw [unhide HCN, unhide HL] at this
              exact this
            have q2 : (cn : Int) < L := by omega
            have q3 : ¬ (L : Int) ≤ cn := by omega
            have cv9 := conv_str (w := w6.drew) (n := fl) (cap := cx) (hby.below (unhide E6).drew) (unhide HFL)
            rw [unhide HSF] at cv9
            have bx := unhide SX _ (unhide E6)
            have ED := hide (unhide E6).drew
            have NX : Hid (cntF f (m + 1) = cn + 1) := (cnt_some hlt he).trans (by rw [unhide HCN])
            have LW : Hid (∀ j : Nat, j < m + 1 → str (f j) = str (F j)) := fun j hj => by
              by_cases e : j = m
              · rw [e, unhide HSF, unhide HSFF]
              · exact unhide LOW j (by omega)
            clear GT cv6 d1 d2 hby he
            go_upto_region 9 with fail
            clear bx
            first
            | (go_region_held_law (fun Y => Y.cell? ⟨w.heap.size, m, none⟩ = some (.string sf) ∧ Y.cell? ⟨blk, off + cn * 2, none⟩ = some (.int .i64 (m : Int)) ∧ Y.cell? ⟨blk, off + cn * 2 + 1, none⟩ = some (.slice r fl cx))
                (first
                  | exact And.intro (unhide SX _ (unhide ED)) (unhide RX _ (unhide ED)))
                (first | fail))
            | fail
            all_goals
              go_wp2
              go_roundw
              case rel => exact ⟨m + 1, by omega, by go_num, by rw [unhide NX]; go_num, unhide LW, unhide ED⟩
              case measure => simp [intOf]; omega
      · have hs' : (sf.toList == sF.toList) = false := str_ne hs
        go_upto_region 6 with fail
        first
        | (go_region_held_law (fun Y => Y.cell? ⟨w.heap.size, m, none⟩ = some (.string sF))
            (first
              | exact unhide SX _ (unhide EZ)
              | exact unhide SX _ (unhide E6))
            (first
              | (go_at_call 22
                 refine (unhide GT).mono ?_
                 rintro e w6 ⟨v6, rfl, o6, b6⟩
                 obtain ⟨a6, c6, rfl, -, -, y6, -, -⟩ := o6.slice
                 have E6 := hide ((unhide EZ).trans (b6.mono (unhide EZ).size))
                 have cv6 := conv_str (n := fl) (cap := c6) y6 (unhide HFL)
                 rw [unhide HSF] at cv6
                 rw [unhide HFL]
                 clear o6 b6 y6)))
        | fail
        all_goals
          have NO : Hid (decide (∀ j : Nat, j < 8 → str (f j) = str (F j)) = false) := decide_eq_false fun h => hs (by rw [← unhide HSF, ← unhide HSFF]; exact h m hlt)
          go_wp2
          go_ret
          exact ⟨by rw [unhide NO]; rfl, unhide EN _ (unhide E6)⟩
    · obtain rfl : m = 8 := by omega
      rw [unhide CL]
      have YES : Hid (decide (∀ j : Nat, j < 8 → str (f j) = str (F j)) = true) := decide_eq_true hlow
      have T8 := hide (hget 8 (by omega) wr (unhide G1 _ hbel))
      have GN := hide (fun (Y : World) (hY : Below w1.heap.size w1 Y) => hget (-1) (by omega) Y (unhide G1 _ hY))
      have B8 := hide hbel
      clear hbel hlow AT BX A1
      go_wp2_with fail
      refine (unhide T8).mono ?_
      rintro e w2 ⟨v2, rfl, o2, b2⟩
      obtain ⟨a2, c2, rfl, -, -, -, -, -⟩ := o2.slice
      have C2 := hide ((unhide B8).trans (b2.mono (unhide B8).size))
      rw [unhide E8]
      clear o2 b2 T8
      go_wp2_with fail
      refine (unhide GN _ (unhide C2)).mono ?_
      rintro e w3 ⟨v3, rfl, o3, b3⟩
      obtain ⟨a3, c3, rfl, -, -, -, -, -⟩ := o3.slice
      have C3 := hide ((unhide C2).trans (b3.mono (unhide C2).size))
      rw [unhide E9]
      clear o3 b3
      go_wp2
      go_ret
      exact ⟨by rw [unhide YES]; rfl, unhide EN _ (unhide C3)⟩
end Go.Proofs.YtnagfoclbdlenaaGreatDoor

/- CellsPlay: what its walk wants besides: boxes of eight beside cells and their tape; good's row; sizes, the tape's bytes, append onto an empty slice, slices of bools. -/
import Derived.Test.YtnagfoclbdlenaaGreatDoorCEndA
import Derived.Test.YtnagfoclbdlenaaGreatDoorCArgs
import Derived.Test.YtnagfoclbdlenaaGreatDoorCGood
import Derived.Test.YtnagfoclbdlenaaGreatDoorCHold
import Derived.Test.YtnagfoclbdlenaaGreatDoorCStat
import Derived.Deep.Grids
import Derived.Deep.AppendSrc
namespace Go.Proofs.YtnagfoclbdlenaaGreatDoor
open Go.RowKit Go.Maps

theorem goods_len (l : List (Int × List Nat)) : ∀ out, (l.foldl addG out).length ≤ out.length + l.length := by
  induction l with
  | nil => intro out; exact Nat.le_refl _
  | cons c l ih =>
    intro out
    have h1 := ih (addG out c)
    have h2 := addG_len out c
    simp only [List.foldl_cons, List.length_cons]
    omega
theorem good_eight (l : List (Int × List Nat)) : (goodOf (l.take 8)).length ≤ 8 := by
  have h := goods_len (l.take 8) []
  have h2 : (l.take 8).length ≤ 8 := by rw [List.length_take]; exact Nat.min_le_left _ _
  simp only [List.length_nil] at h
  unfold goodOf
  omega

theorem Live.lt {base : Nat} {w0 w : World} {cp l p : Nat} {g a : Addr} {f : Int → List Nat} {k : Nat} {left : Int} {dead : Bool} (h : Live base w0 w cp l p g a f k left dead) : (l < w.heap.size ∧ p < w.heap.size) ∧ cp < w.heap.size := by
  obtain ⟨b, c, q, n, ops, h1, h2, -⟩ := h
  exact ⟨⟨blk_lt' h2.2.1, (h2.lt p (Or.inr (Or.inl rfl))).2⟩, blk_lt' h1.2.1⟩

theorem box_kept {w w' : World} {base P l p cp : Nat} {xs : Array Value} {t : TypeId} {fr : Nat × Nat} (hk : Kept base (fun j => (j = l ∨ j = p) ∨ j = cp) w w') (hP : (P ≠ l ∧ P ≠ p) ∧ P ≠ cp) (h : w.heap[P]? = some (.cells xs t fr)) : w'.heap[P]? = some (.cells xs t fr) :=
  (hk.2 P (blk_lt' h) (fun h => h.elim (fun h => h.elim hP.1.1 hP.1.2) hP.2)).trans h
theorem box_kept1 {w w' : World} {base P p : Nat} {xs : Array Value} {t : TypeId} {fr : Nat × Nat} (hk : Kept base (fun j => j = p) w w') (hP : P ≠ p) (h : w.heap[P]? = some (.cells xs t fr)) : w'.heap[P]? = some (.cells xs t fr) :=
  (hk.2 P (blk_lt' h) hP).trans h
theorem box8_kept {w y : World} {base P : Nat} (hb : Kept base (fun j => j = P) w y) (hB : base ≤ P) (v0 v1 v2 v3 v4 v5 v6 v7 : Value) : Kept base (fun j => j = P) w (box8 y P v0 v1 v2 v3 v4 v5 v6 v7) := by
  unfold box8
  exact (((((((hb.setCell (p := ⟨P, 0, none⟩) hB rfl v0).setCell (p := ⟨P, 1, none⟩) hB rfl v1).setCell (p := ⟨P, 2, none⟩) hB rfl v2).setCell (p := ⟨P, 3, none⟩) hB rfl v3).setCell (p := ⟨P, 4, none⟩) hB rfl v4).setCell (p := ⟨P, 5, none⟩) hB rfl v5).setCell (p := ⟨P, 6, none⟩) hB rfl v6).setCell (p := ⟨P, 7, none⟩) hB rfl v7
theorem Tp.far {base : Nat} {w : World} {p : Nat} {q : Option Nat} {s : St} (h : Tp base w p q s) {k : Nat} {xs : Array Value} {fr : Nat × Nat} (hk : w.heap[k]? = some (.cells xs 34 fr)) : ¬ foot p q k := by
  obtain ⟨v, hv, _, hp, hown, _⟩ := h
  rintro (rfl | e)
  · rw [hk] at hp; cases hp
  · exact hown.ne hk (by decide) k (hv.trans e) rfl
theorem Rest.size {base : Nat} {w0 w : World} {p : Nat} {g a : Addr} {f : Int → List Nat} {k : Nat} {left : Int} {dead : Bool} (h : Rest base w0 w p g a f k left dead) : base ≤ w.heap.size := by
  obtain ⟨_, _, _, _, _, _, _, _, _, _, _, h10⟩ := h
  exact h10
theorem Rest.kept {base : Nat} {w0 w w' : World} {p P : Nat} {g a : Addr} {f : Int → List Nat} {k : Nat} {left : Int} {dead : Bool} {xs : Array Value} {fr : Nat × Nat} (h : Rest base w0 w p g a f k left dead) (hk : Kept base (fun j => j = P) w w') (hx : w.heap[P]? = some (.cells xs 34 fr)) (hP : P ≠ p) (hz : 4 ≤ base) : Rest base w0 w' p g a f k left dead := by
  obtain ⟨q, n, ops, h1, h3, h4, h5, h6, h7, h8, h9, h10⟩ := h
  exact ⟨q, n, ops, h1.kept hk (fun e => hP e.symm) (fun j hj e => h1.far hx (Or.inr (by rw [← e]; exact hj))), h3, h4, h5, h6, h7, h8.keptd hk hz, h9.trans hk.1, Nat.le_trans h10 hk.1.size⟩

theorem CRowsAt.below {w w' : World} {ao : Option Addr} {n : Nat} (h : CRowsAt w ao n) (hb : Below w.heap.size w w') : CRowsAt w' ao n := fun i hi => by
  obtain ⟨blk, off, r, m, cx, lst, h1, h2, h3, h4, h5, h6, h7⟩ := h i hi
  exact ⟨blk, off, r, m, cx, lst, h1, (hb.cell (blk_lt h2)).trans h2, h3, h4, h5, h6.below hb, h7⟩

theorem cell_same {w w' : World} {a : Addr} (h : w'.heap[a.block]? = w.heap[a.block]?) : w'.cell? a = w.cell? a := by unfold World.cell?; rw [h]
theorem ne_box {w : World} {N : Nat} {f : Int → List Nat} {t : TypeId} {fr : Nat × Nat} (hN : w.heap[N]? = some (.cells (arr8 f) t fr)) {a : Addr} {v : Value} (h : w.cell? a = some v) (hv : ∀ s, v ≠ .string s) : a.block ≠ N := fun e => by
  unfold World.cell? at h
  rw [e, hN] at h
  simp only at h
  split at h
  · cases h
  · by_cases h8 : a.off < 8
    · rw [arr8_at f a.off h8] at h
      cases h
      exact hv _ rfl
    · rw [Array.getElem?_eq_none (by show 8 ≤ a.off; omega)] at h
      cases h
theorem box_cell {w w' : World} {base N : Nat} {f : Int → List Nat} {t : TypeId} {fr : Nat × Nat} (hN : w.heap[N]? = some (.cells (arr8 f) t fr)) (hk : Kept base (fun j => j = N) w w') {a : Addr} {v : Value} (h : w.cell? a = some v) (hv : ∀ s, v ≠ .string s) : w'.cell? a = some v :=
  (cell_same (hk.2 a.block (by
    unfold World.cell? at h
    split at h
    · rename_i e; exact blk_lt' e
    · cases h) (ne_box hN h hv))).trans h
theorem CAt.box {w w' : World} {base N : Nat} {f : Int → List Nat} {t : TypeId} {fr : Nat × Nat} {ao : Option Addr} {l : List (Int × List Nat)} (h : CAt w ao l) (hN : w.heap[N]? = some (.cells (arr8 f) t fr)) (hk : Kept base (fun j => j = N) w w') : CAt w' ao l := fun i n bs hi => by
  obtain ⟨blk, off, r, cx, h1, h2, h3, h4, h5, h6⟩ := h i n bs hi
  refine ⟨blk, off, r, cx, h1, box_cell hN hk h2 (fun s e => by cases e), box_cell hN hk h3 (fun s e => by cases e), ⟨h4.1, fun j hj => ?_⟩, h5, h6⟩
  obtain ⟨b, e1, e2⟩ := h4.2 j hj
  exact ⟨b, e1, box_cell hN hk e2 (fun s e => by cases e)⟩
theorem Live.kept {base : Nat} {w0 w w' : World} {cp l p P : Nat} {g a : Addr} {f : Int → List Nat} {k : Nat} {left : Int} {dead : Bool} {xs : Array Value} {fr : Nat × Nat} (h : Live base w0 w cp l p g a f k left dead) (hk : Kept base (fun j => j = P) w w') (hx : w.heap[P]? = some (.cells xs 34 fr)) (hP : (P ≠ l ∧ P ≠ p) ∧ P ≠ cp) (hz : 4 ≤ base) : Live base w0 w' cp l p g a f k left dead := by
  obtain ⟨b, c, q, n, ops, h1, h2, h3, h4, h5, h6, h7, h8, h9, h10⟩ := h
  exact ⟨b, c, q, n, ops, ⟨h1.1, (hk.2 cp (blk_lt' h1.2.1) (fun e => hP.2 e.symm)).trans h1.2.1, h1.2.2.kept hk (fun j hj => by subst hj; exact ⟨_, _, _, hx, by decide⟩)⟩, h2.kept hk (fun j hj e => by
    rcases hj with hj | hj
    · exact hP.1.1 (e.symm.trans hj)
    · exact h2.tape.far hx (by rw [← e]; exact hj)), h3, h4, h5, h6, h7, h8.keptd hk hz, h9.trans hk.1, Nat.le_trans h10 hk.1.size⟩
theorem Live.up {base : Nat} {w0 w : World} {cp l p : Nat} {g a : Addr} {f : Int → List Nat} {k k' : Nat} {left : Int} {dead : Bool} (h : Live base w0 w cp l p g a f k left dead) (hk : k ≤ k') : Live base w0 w cp l p g a f k' left dead := by
  obtain ⟨b, c, q, n, ops, h1, h2, h3, h4, h5, h6, h7, h8, h9, h10⟩ := h
  exact ⟨b, c, q, n, ops, h1, h2, h3, h4, h5, by omega, by omega, h8, h9, h10⟩



set_option maxRecDepth 20000 in
set_option maxHeartbeats 4000000 in
theorem good_row (w00 : World) (al : Option Addr) (n cl : Nat) (lst : List (Int × List Nat)) (hn : lst.length = n) (hmax : n ≤ maxLen) (hml : ∀ c ∈ lst, c.2.length ≤ maxLen) (w : World) (h00 : Below w00.heap.size w00 w) (h : CAt w00 al lst) :
    Calls Tryz.prog 12 #[.slice al n cl] w fun e w' => ∃ ao cap, e = .returned (.slice ao (goodOf (lst.take 8)).length cap) ∧ (goodOf (lst.take 8)).length ≤ cap ∧ GRow (w.heap.size + 1) w00 w' (.slice ao (goodOf (lst.take 8)).length cap) (goodOf (lst.take 8)) ∧ Below w.heap.size w w' := by
  have hmm' : n ≤ 9223372036854775807 := hmax
  obtain ⟨Z, hZ⟩ : ∃ Z : Array Value, #[Value.bool false, .bool false, .bool false, .bool false, .bool false, .bool false, .bool false, .bool false] = Z := ⟨_, rfl⟩
  obtain ⟨W, hW⟩ : ∃ W, w.alloc (.cells Z 69) = W := ⟨_, rfl⟩
  have bW : Below w.heap.size w W := by rw [← hW]; exact (Below.refl _ w).alloc (Nat.le_refl _) _
  have xW : W.heap[w.heap.size]? = some (.cells Z 69 (0, 0)) := by rw [← hW]; exact heap_alloc_new _ _
  have sW : W.heap.size = w.heap.size + 1 := by rw [← hW]; simp
  have ZB : Hid (Bools Z 8 (fun j => hasK (goodOf (lst.take 0)) (j : Int))) := by
    rw [← hZ]
    refine ⟨rfl, fun j hj => ?_⟩
    rw [List.take_zero]
    match j, hj with
    | 0, _ => rfl
    | 1, _ => rfl
    | 2, _ => rfl
    | 3, _ => rfl
    | 4, _ => rfl
    | 5, _ => rfl
    | 6, _ => rfl
    | 7, _ => rfl
  have HH := hide h
  have H00 := hide h00
  clear h00
  have EN := hide hn
  have ML := hide hml
  have HW := hide (show w.alloc (.cells #[Value.bool false, .bool false, .bool false, .bool false, .bool false, .bool false, .bool false, .bool false] 69) = W by rw [hZ]; exact hW)
  have BW := hide bW
  have XW := hide xW
  have SW := hide sW
  obtain ⟨i0, hi, hz0, hz1, hz2⟩ := infoCell
  clear h hn hml hmax hZ hW bW xW sW
  go_enter Tryz.func12, Tryz.ntmps12
  go_wp2_with fail
  rw [unhide HW]
  clear HW
  go_loopw [5, 3, 6] (fun i s _ wr => ∃ (k : Nat) (cs : Array Value), k ≤ n ∧ k ≤ 8 ∧ i = .int .i64 k ∧ wr.heap[w.heap.size]? = some (.cells cs 69 (0, 0)) ∧ Bools cs 8 (fun j => hasK (goodOf (lst.take k)) (j : Int)) ∧ GRow (w.heap.size + 1) w00 wr s (goodOf (lst.take k)) ∧ (goodOf (lst.take k)).length ≤ k ∧ Below w.heap.size w wr) (fun i _ _ _ => 8 - (intOf i).toNat)
  case atStart => exact ⟨0, Z, Nat.zero_le _, Nat.zero_le _, rfl, unhide XW, unhide ZB, GRow.nil _ _ _, Nat.le_refl _, unhide BW⟩
  case round =>
    obtain ⟨k, cs, hk, hk8, rfl, hx, hbl, hgr, hlen, hbel⟩ := hrel
    by_cases hlt : k < n ∧ k < 8
    · have q1 : (k : Int) < n := by omega
      have q2 : (k : Int) < 8 := by omega
      have hkl : k < lst.length := by rw [unhide EN]; exact hlt.1
      obtain ⟨⟨N, bs⟩, hkk⟩ : ∃ c, lst[k]? = some c := ⟨_, List.getElem?_eq_getElem hkl⟩
      have TS : Hid (goodOf (lst.take (k + 1)) = addG (goodOf (lst.take k)) (N, bs)) := by
        show _ = _
        rw [← goodOf_snoc, List.take_add_one, hkk]; rfl
      have hm5 := unhide ML (N, bs) (List.mem_of_getElem? hkk)
      obtain ⟨blk, off, r, cx, hal, d1', d2', hby, hr, hcx⟩ := unhide HH k N bs hkk
      have d1 := ((unhide H00).cell (blk_lt d1')).trans d1'
      have d2 := ((unhide H00).cell (blk_lt d2')).trans d2'
      clear d1' d2'
      have BY := hide hby
      have HR := hide hr
      have HCX := hide hcx
      have blt : blk < w.heap.size := blk_lt d1
      have DD := hide (fun (Y : World) (h : Below w.heap.size w Y) => And.intro ((h.cell (blk_lt d1)).trans d1) ((h.cell (blk_lt d2)).trans d2))
      have e1 := ((unhide DD) _ hbel).1
      have e2 := ((unhide DD) _ hbel).2
      subst hal
      obtain ⟨x, hxx⟩ : ∃ x : Nat, N % 8 = (x : Int) := ⟨(N % 8).toNat, by have := Int.emod_nonneg N (show (8 : Int) ≠ 0 by decide); omega⟩
      have hx8 : x < 8 := by have := Int.emod_lt_of_pos N (show (0 : Int) < 8 by decide); omega
      have WI := hide (within_at N 8 x hxx wr (by decide) (by decide))
      have qx : (x : Int) < 8 := by omega
      obtain ⟨out, hout⟩ : ∃ out, goodOf (lst.take k) = out := ⟨_, rfl⟩
      rw [hout] at hbl hgr hlen TS
      have AD : Hid (addG out (N, bs) = if hasK out (x : Int) = false ∧ bs.length ≤ 500 then out ++ [((x : Int), bs)] else out) := by show _ = _; unfold addG; rw [hxx]
      have hc : wr.cell? ⟨w.heap.size, x, none⟩ = some (.bool (hasK out (x : Int))) := (cell_of_block (i := x) hx).trans (hbl.2 x hx8)
      have hf : wr.frozen? ⟨w.heap.size, x, none⟩ = false := free_of_block hx
      obtain ⟨bl, hbll⟩ : ∃ bl, bs.length = bl := ⟨_, rfl⟩
      rw [hbll] at e2 AD hm5
      have HBL := hide hbll
      have hm5' : bl ≤ 9223372036854775807 := hm5
      have HX := hide hx
      have BL := hide hbl
      have GR := hide hgr
      have BEL := hide hbel
      clear d1 d2 hby hr hcx hkk hkl hout hxx hx hbl hgr hbel hbll hm5
      obtain ⟨hs, hhs⟩ : ∃ hs, hasK out (x : Int) = hs := ⟨_, rfl⟩
      rw [hhs] at hc AD
      have HHS := hide hhs
      clear hhs
      go_wp2_with fail
      refine (unhide WI).mono ?_
      rintro e wq ⟨rfl, hw⟩
      replace hw := hw.symm
      subst hw
      clear WI
      cases hs
      · by_cases hb5 : bl ≤ 500
        · have hb5' : (bl : Int) ≤ 500 := by omega
          rw [if_pos ⟨rfl, hb5⟩] at AD
          obtain ⟨W1, hW1⟩ : ∃ W1, wr.setCell ⟨w.heap.size, x, none⟩ (.bool true) = W1 := ⟨_, rfl⟩
          have x1 : W1.heap[w.heap.size]? = some (.cells (cs.setIfInBounds x (.bool true)) 69 (0, 0)) := by rw [← hW1]; exact setCell_block (unhide HX)
          have k1 : ∀ j, j ≠ w.heap.size → W1.heap[j]? = wr.heap[j]? := fun j hj => by rw [← hW1]; exact Below.heap_setCell wr ⟨w.heap.size, x, none⟩ _ j hj
          have b1 : Below w.heap.size w W1 := by rw [← hW1]; exact (unhide BEL).setCell (p := ⟨w.heap.size, x, none⟩) (Nat.le_refl _) _
          have g1 := (unhide GR).kept (w' := W1) (fun j hj => k1 j (by omega))
          obtain ⟨xs, ho, hxs⟩ := g1
          have f2 := ((unhide DD) _ b1).2
          rw [unhide HBL] at f2
          have HO := hide ho
          have HXS := hide hxs
          have B1 := hide b1
          have X1 := hide x1
          have HW1 := hide hW1
          have s1 : w.heap.size + 1 ≤ W1.heap.size := by have := blk_lt' x1; omega
          clear k1 b1 x1 ho hxs hW1
          go_upto_region 9 with fail
          rw [unhide HW1]
          clear HW1 hc hf
          go_wp2_with (at_builtin; refine wpList_append_own _ rfl (.tmp 38) (.tmp 46) 35 rfl (w.heap.size + 1) 40 i0 (.agg #[.int .i64 0, .slice none 0 0]) 2 32 Tryz.underlying35 hi hz0 hz1 hz2 rfl (by decide) _ out.length xs rfl (own_below (unhide HO) ((Below.refl _ W1).alloc (Nat.le_refl _) _)) ⟨W1.heap.size, 0, none⟩ 1 1 [.int .i64 (x : Int), .slice r bl cx] rfl rfl (news_at (W := W1) (cs := #[.int .i64 (x : Int), .slice r bl cx]) (t := 40)) (cell_one _ _ rfl) (by unfold maxLen; omega) (by omega) (by simp; omega) ?_)
          intro v2 w2 o2 g2 _
          have B2 := hide (((unhide B1).alloc (unhide B1).size (.cells #[.int .i64 (x : Int), .slice r bl cx] 40)).grown g2 (by simp; omega) (fun j hj => by have := ((own_below (unhide HO) ((Below.refl _ W1).alloc (Nat.le_refl _) (.cells #[.int .i64 (x : Int), .slice r bl cx] 40))).lt j hj).1; omega))
          have X2 : Hid (w2.heap[w.heap.size]? = some (.cells (cs.setIfInBounds x (.bool true)) 69 (0, 0))) := by
            refine (g2.block _ (by simp; omega) (fun e => ?_)).trans ((Below.heap_alloc W1 _ _ (blk_lt' (unhide X1))).trans (unhide X1))
            have := ((own_below (unhide HO) ((Below.refl _ W1).alloc (Nat.le_refl _) (.cells #[.int .i64 (x : Int), .slice r bl cx] 40))).lt _ e.symm).1
            omega
          have GR2 : Hid (GRow (w.heap.size + 1) w00 w2 v2 (out ++ [((x : Int), bs)])) := by
            have o2' := o2
            rw [← unhide HBL] at o2'
            exact GRow.push (unhide HXS) (unhide HO).1 o2' (unhide BY) (unhide HR) (unhide HCX)
          clear o2 g2
          go_wp2
          go_roundw
          case rel =>
            refine ⟨k + 1, _, by omega, by omega, by go_num, unhide X2, ?_, by rw [unhide TS, unhide AD]; exact unhide GR2, ?_, unhide B2⟩
            · rw [unhide TS, unhide AD]
              have := (unhide BL).set x hx8
              refine ⟨this.1, fun j hj => ?_⟩
              rw [this.2 j hj]
              show some (Value.bool (hasK out (j : Int) || decide (j = x))) = some (Value.bool (hasK (out ++ [((x : Int), bs)]) (j : Int)))
              rw [hasK_snoc, show decide (j = x) = decide ((j : Int) = (x : Int)) from decide_eq_decide.2 (by omega)]
            · rw [unhide TS]; exact Nat.le_trans (addG_len _ _) (by omega)
          case measure => simp [intOf]; omega
        · have hb5' : ¬ (bl : Int) ≤ 500 := by omega
          rw [if_neg (fun h => hb5 h.2)] at AD
          go_wp2
          go_roundw
          case rel => exact ⟨k + 1, cs, by omega, by omega, by go_num, unhide HX, by rw [unhide TS, unhide AD]; exact unhide BL, by rw [unhide TS, unhide AD]; exact unhide GR, by rw [unhide TS, unhide AD]; omega, unhide BEL⟩
          case measure => simp [intOf]; omega
      · rw [if_neg (fun h => by cases h.1)] at AD
        go_wp2
        go_roundw
        case rel => exact ⟨k + 1, cs, by omega, by omega, by go_num, unhide HX, by rw [unhide TS, unhide AD]; exact unhide BL, by rw [unhide TS, unhide AD]; exact unhide GR, by rw [unhide TS, unhide AD]; omega, unhide BEL⟩
        case measure => simp [intOf]; omega
    · have et : goodOf (lst.take k) = goodOf (lst.take 8) := by
        by_cases h8 : k = 8
        · rw [h8]
        · have h1 : lst.length ≤ k := by rw [unhide EN]; omega
          rw [List.take_of_length_le h1, List.take_of_length_le (by omega)]
      rw [et] at hgr hlen
      obtain ⟨ao, cap, rfl, hcap, -⟩ := hgr.at ((unhide H00).trans (hbel.mono (unhide H00).size))
      have AT := hide hgr
      have BEL := hide hbel
      have HLT := hide hlt
      obtain ⟨L, hL⟩ : ∃ L, (goodOf (lst.take 8)).length = L := ⟨_, rfl⟩
      rw [hL] at hcap ⊢
      have HL := hide hL
      clear hgr hbel hbl hx et hlt hL
      by_cases hkn : k < n
      · have q1 : (k : Int) < n := by omega
        have q2 : ¬ (k : Int) < 8 := by
          intro h; exact unhide HLT ⟨hkn, by omega⟩
        go_wp2
        go_ret
        exact ⟨ao, cap, by rw [unhide HL]; rfl, by rw [unhide HL]; exact hcap, unhide AT, unhide BEL⟩
      · have q1 : ¬ (k : Int) < n := by omega
        go_wp2
        go_ret
        exact ⟨ao, cap, by rw [unhide HL]; rfl, by rw [unhide HL]; exact hcap, unhide AT, unhide BEL⟩
theorem GRow.keep {base : Nat} {w0 w w' : World} {v : Value} {l : List (Int × List Nat)} (h : GRow base w0 w v l) (hk : ∀ k, base ≤ k → k < w.heap.size → w'.heap[k]? = w.heap[k]?) : GRow base w0 w' v l := by
  obtain ⟨xs, h1, h2⟩ := h
  exact ⟨xs, own_kept h1 fun k e => hk k (h1.lt k e).1 (h1.lt k e).2, h2⟩
theorem GRow.cat {base : Nat} {w0 w : World} {ao : Option Addr} {n cap : Nat} {l : List (Int × List Nat)} (h : GRow base w0 w (.slice ao n cap) l) (hb : Below w0.heap.size w0 w) : CAt w ao l := by
  obtain ⟨ao', cap', e, _, h2⟩ := h.at hb
  cases e
  exact h2

section
open Go.ChangeShapes Go.WideShapes Go.ChangeAt Go.Deep

theorem gsz {base : Nat} {w0 : World} {cp l p : Nat} {g a : Addr} {f : Int → List Nat} {k : Nat} (w : World) (h : Good base w0 w cp l p g a f k) :
    Calls Tryz.prog 17 #[.pointer (some ⟨cp, 0, none⟩)] w fun e w' => e = .returned (.int .i64 (takes (rows f) : Int)) ∧ w' = w := by
  obtain ⟨b, c, q, n, ops, h1, h2, h3, h4, h5, -⟩ := h
  rw [h3]; exact csize_any w h1 h2
theorem gsz_le {base : Nat} {w0 w : World} {cp l p : Nat} {g a : Addr} {f : Int → List Nat} {k : Nat} (h : Good base w0 w cp l p g a f k) : takes (rows f) ≤ 96072 := by
  obtain ⟨b, c, q, n, ops, h1, h2, h3, h4, h5, -⟩ := h
  exact takes_rows h5
theorem gbytes {base : Nat} {w0 : World} {cp l p : Nat} {g a : Addr} {f : Int → List Nat} {k : Nat} (w : World) (h : Good base w0 w cp l p g a f k) :
    Calls Tryz.prog 18 #[.pointer (some ⟨p, 0, none⟩)] w fun e w' => ∃ ao cap, e = .returned (.slice ao (takes (rows f)) cap) ∧ Below w.heap.size w w' := by
  obtain ⟨b, c, q, n, ops, h1, h2, h3, h4, h5, -⟩ := h
  refine (bytes_own base p q _ (cats (rows f)) (takes (rows f)) rfl (cats_len _) w h2.tape).mono ?_
  rintro e w' ⟨ao, cap, rfl, _, b'⟩
  exact ⟨ao, cap, rfl, b'⟩
theorem Good.apart {base : Nat} {w0 w : World} {cp l p : Nat} {g a : Addr} {f : Int → List Nat} {k : Nat} (h : Good base w0 w cp l p g a f k) {P : Nat} {xs : Array Value} {fr : Nat × Nat} (hx : w.heap[P]? = some (.cells xs 34 fr)) : (P ≠ l ∧ P ≠ p) ∧ P ≠ cp := by
  obtain ⟨b, c, q, n, ops, h1, h2, -⟩ := h
  refine ⟨⟨fun e => ?_, fun e => ?_⟩, fun e => ?_⟩
  · have := h2.2.1; rw [← e, hx] at this; cases this
  · exact h2.tape.far hx (Or.inl e)
  · have := h1.2.1; rw [← e, hx] at this; cases this
theorem Good.up {base : Nat} {w0 w : World} {cp l p : Nat} {g a : Addr} {f : Int → List Nat} {k k' : Nat} (h : Good base w0 w cp l p g a f k) (hk : k ≤ k') : Good base w0 w cp l p g a f k' := (h.live.up hk).good

/-- append of one cell onto a slice that has no room: a new row. -/
theorem step_cell {w : World} {ops : Array Oper} {o : Oper} {a : Act} {K : Act → World → Prop} {Q : Exit → Act → World → Prop} {E : Prop} (hgd : o.guard = none) (s x : Operand)
    (ho : o.op = .call { callee := .builtin .append, args := #[s, x], argTypes := #[35, 35] }) (ao : Option Addr) (hs : a.eval s = .slice ao 0 0) (b : Nat) (hx : a.eval x = .slice (some ⟨b, 0, none⟩) 1 1)
    (n : Int) (r : Option Addr) (m cx : Nat) (fr : Nat × Nat) (hb : w.heap[b]? = some (.cells #[.int .i64 n, .slice r m cx] 40 fr)) (H : Nat) (hH : w.heap.size = H)
    (h : ∀ cap w', w'.cell? ⟨H, 0, none⟩ = some (.int .i64 n) → w'.cell? ⟨H, 1, none⟩ = some (.slice r m cx) → 1 ≤ cap → Below w.heap.size w w' → K (a.put o.dst (.slice (some ⟨H, 0, none⟩) 1 cap)) w') :
    if Region.wanted o (yielded ops a.tmps) = true then Oper.wp Tryz.prog o a w K Q else E := by
  have hw : Region.wanted o (yielded ops a.tmps) = true := by simp [Region.wanted, hgd]
  rw [if_pos hw]
  subst hH
  obtain ⟨i0, hi, hz0, hz1, hz2⟩ := infoCell
  have hsrc : Src Tryz.prog i0.size 35 (.slice (some ⟨b, 0, none⟩) 1 1) 1 [.int .i64 n, .slice r m cx] w := by
    refine Src.ofSlice w Tryz.underlying35 ⟨b, 0, none⟩ 1 1 _ (by rw [hz1]; rfl) (fun j u hj => ?_) (fun u hu => ?_)
    · rw [Addr.add_lit, cell_of_block hb, ← Array.getElem?_toList, Nat.zero_add]; exact hj
    · simp only [List.mem_cons, List.not_mem_nil, or_false] at hu
      rcases hu with rfl | rfl <;> rfl
  have hold : (Builtin.firstCells i0.size 0 (.slice ao 0 0)).run Tryz.prog w.drew = .ok ([] : List Value).toArray w.drew := by
    cases ao with
    | none => exact run_firstCells_none w.drew i0.size 0 0 0
    | some ad => exact run_firstCells_some w.drew i0.size 0 ad 0 0 [] (by simp) (fun j u hj => by simp at hj)
  have hr := run_append_grow_src (P := Tryz.prog) w 35 35 o.type 40 i0 _ Tryz.underlying35 hi hz0 ao 0 0 [] hold _ 1 _ hsrc (by decide) (by decide) (growslice_fits (by decide) (by rw [hz2]; decide))
  have hge := grownCap_ge w (0 + 1) 0 40
  unfold Oper.wp execOp
  simp only [ho, resolve, invoke, builtin, Sem.run_bind, Sem.run_pure, Result.andThen_ok, List.map_toArray, List.map_cons, List.map_nil, hs, hx, hr]
  refine h _ _ ((cell_of_block (heap_alloc_new w.drew _)).trans ?_) ((cell_of_block (heap_alloc_new w.drew _)).trans ?_) hge ?_
  · rw [Array.getElem?_append_left (by simp)]; rfl
  · rw [Array.getElem?_append_left (by simp)]; rfl
  · exact (Below.refl _ w).drew.alloc (Nat.le_refl _) _

/-- one great cell in memory of the call's own. -/
theorem great_at {w : World} {B : Nat} {n : Int} {fr : Nat × Nat} (h0 : w.cell? ⟨B + 2, 0, none⟩ = some (.int .i64 n)) (h1 : w.cell? ⟨B + 2, 1, none⟩ = some (.slice (some ⟨B, 0, none⟩) 12000 12000)) (hz : w.heap[B]? = some (.cells (u8s (zeros 12000)).toArray 5 fr)) : CAt w (some ⟨B + 2, 0, none⟩) [(n, zeros 12000)] := fun i x bs hi => by
  have hi0 : i = 0 := by
    have := (List.getElem?_eq_some_iff.1 hi).1
    simp at this; exact this
  subst hi0
  simp only [List.getElem?_cons_zero, Option.some.injEq, Prod.mk.injEq] at hi
  obtain ⟨rfl, rfl⟩ := hi
  refine ⟨B + 2, 0, some ⟨B, 0, none⟩, 12000, rfl, h0, ?_, bytes_block hz (zeros_lt _), fun e => (by cases e), by rw [zeros_length]; exact Nat.le_refl _⟩
  rw [zeros_length]; exact h1
theorem cell_kept {w w' : World} {base : Nat} {D : Nat → Prop} (hk : Kept base D w w') {a : Addr} {u : Value} (h : w.cell? a = some u) (hn : ¬ D a.block) : w'.cell? a = some u := (cell_same (hk.2 a.block (blk_lt h) hn)).trans h
theorem Good.lts {base : Nat} {w0 w : World} {cp l p : Nat} {g a : Addr} {f : Int → List Nat} {k : Nat} (h : Good base w0 w cp l p g a f k) : (l < w.heap.size ∧ p < w.heap.size) ∧ cp < w.heap.size := h.live.lt
theorem hold_same {base : Nat} {w0 : World} {cp l p : Nat} {g a : Addr} {f : Int → List Nat} {k : Nat} (hk : k ≤ 1000) (w : World) (h : Good base w0 w cp l p g a f k) :
    Calls Tryz.prog 16 #[.pointer (some ⟨cp, 0, none⟩), .agg (arr8 f)] w fun e w' => e = .returned (.bool true) ∧ Below w.heap.size w w' := by
  refine (holds_any (F := f) hk w h).mono ?_
  rintro e w' ⟨rfl, b⟩
  exact ⟨by rw [decide_eq_true (fun _ _ => rfl)], b⟩

/-- a slice of bools. -/
def BoolsR (w : World) (ao : Option Addr) (bs : List Bool) : Prop := ∀ i, i < bs.length → ∃ a, ao = some a ∧ w.cell? (a.add i) = some (.bool (bs.getD i false))
theorem BoolsR.below {w w' : World} {ao : Option Addr} {bs : List Bool} (h : BoolsR w ao bs) (hb : Below w.heap.size w w') : BoolsR w' ao bs := fun i hi => by
  obtain ⟨a, e, hc⟩ := h i hi
  exact ⟨a, e, by rw [hb.cell (blk_lt hc)]; exact hc⟩
theorem Tryz.cellsB : Tryz.prog.cellsOf 4 = 1 := by kernel_rfl
set_option maxRecDepth 100000 in
theorem bools_open {H : Type} {enc : TypeId × Value → H} {W : World} {base : Nat} {v : Value} {d : DataW H} {p : List MemPlace} (hv : Value.okWide Tryz.prog W .any base 23 v) (h : DataW.Trod enc Tryz.prog W 0 (fun _ => true) true 23 v d p) :
    ∃ ao n cap bs, v = .slice ao n cap ∧ bs.length = n ∧ n ≤ maxLen ∧ BoolsR W ao bs := by
  obtain ⟨a0, len, cap, rfl⟩ := okWide_slice Tryz.underlying23 hv
  obtain ⟨fuel, hf⟩ := h
  rcases open_bools Tryz.underlying23 Tryz.underlying4 Tryz.cellsB hf with ⟨hcs, hx⟩ | ⟨a, len', cap', B, hcs, _, hl, hm, hx, hcell⟩
  · simp [Value.cells] at hcs
    obtain ⟨rfl, rfl, rfl⟩ := hcs
    exact ⟨none, 0, 0, [], rfl, rfl, by decide, fun i h => by simp at h⟩
  · simp [Value.cells] at hcs
    obtain ⟨rfl, rfl, rfl⟩ := hcs
    refine ⟨some a, len, cap, (List.range len).map B, rfl, by simp, by omega, fun i hi => ⟨a, rfl, ?_⟩⟩
    have hil : i < len := by simpa using hi
    rw [hcell i (by omega), List.getD_eq_getElem?_getD]
    simp [hil]
end
end Go.Proofs.YtnagfoclbdlenaaGreatDoor

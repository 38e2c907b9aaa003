/- synodallaw5's good: a contract. -/
import Derived.Test.YtnagfoclbdlenaaGreatDoorCManW
namespace Go.Proofs.YtnagfoclbdlenaaGreatDoor
open Go.RowKit Go.Maps

/-- an array of marks. -/
def Bools (cs : Array Value) (n : Nat) (f : Nat → Bool) : Prop := cs.size = n ∧ ∀ j, j < n → cs[j]? = some (.bool (f j))
theorem Bools.set {cs : Array Value} {n : Nat} {f : Nat → Bool} (h : Bools cs n f) (k : Nat) (hk : k < n) : Bools (cs.setIfInBounds k (.bool true)) n fun j => f j || decide (j = k) := by
  refine ⟨by simp [h.1], fun j hj => ?_⟩
  rw [Array.getElem?_setIfInBounds]
  by_cases e : k = j
  · subst e; simp [h.1, hk]
  · rw [if_neg e, h.2 j hj]; simp only; rw [decide_eq_false (fun x : j = k => e x.symm), Bool.or_false]
/-- cells such as may be put, each once. -/
def hasK (out : List (Int × List Nat)) (k : Int) : Bool := (out.map (·.1)).contains k
def addG (out : List (Int × List Nat)) (c : Int × List Nat) : List (Int × List Nat) := if hasK out (c.1 % 8) = false ∧ c.2.length ≤ 500 then out ++ [(c.1 % 8, c.2)] else out
def goodOf (l : List (Int × List Nat)) : List (Int × List Nat) := l.foldl addG []
theorem goodOf_snoc (l : List (Int × List Nat)) (c : Int × List Nat) : goodOf (l ++ [c]) = addG (goodOf l) c := by unfold goodOf; rw [List.foldl_append]; rfl
theorem addG_len (out : List (Int × List Nat)) (c : Int × List Nat) : (addG out c).length ≤ out.length + 1 := by unfold addG; split <;> simp
theorem hasK_snoc (out : List (Int × List Nat)) (k : Int) (bs : List Nat) (j : Int) : hasK (out ++ [(k, bs)]) j = (hasK out j || decide (j = k)) := by
  unfold hasK
  rw [List.map_append, Bool.eq_iff_iff, List.contains_iff_mem, List.mem_append, Bool.or_eq_true, List.contains_iff_mem, decide_eq_true_eq]
  simp
/-- cells that lie in a row of the call's own; their bytes are as they lay in w0. -/
def GRow (base : Nat) (w0 w : World) (v : Value) (l : List (Int × List Nat)) : Prop :=
  ∃ xs, w.ownsRow base 40 2 v l.length xs ∧ ∀ (i : Nat) (n : Int) (bs : List Nat), l[i]? = some (n, bs) → ∃ r cx, xs[i * 2]? = some (.int .i64 n) ∧ xs[i * 2 + 1]? = some (.slice r bs.length cx) ∧ Bytes w0 r bs ∧ (r = none → cx = 0) ∧ bs.length ≤ cx
theorem GRow.nil (base : Nat) (w0 w : World) : GRow base w0 w (.slice none 0 0) [] := ⟨[], ⟨rfl, Or.inl ⟨rfl, rfl⟩⟩, fun i n bs h => by simp at h⟩
theorem GRow.below {base : Nat} {w0 w w' : World} {v : Value} {l : List (Int × List Nat)} (h : GRow base w0 w v l) (hb : Below w.heap.size w w') : GRow base w0 w' v l := by
  obtain ⟨xs, h1, h2⟩ := h
  exact ⟨xs, own_below h1 hb, h2⟩
theorem GRow.kept {base : Nat} {w0 w w' : World} {v : Value} {l : List (Int × List Nat)} (h : GRow base w0 w v l) (hk : ∀ k, base ≤ k → w'.heap[k]? = w.heap[k]?) : GRow base w0 w' v l := by
  obtain ⟨xs, h1, h2⟩ := h
  exact ⟨xs, own_kept h1 fun k e => hk k (h1.lt k e).1, h2⟩
theorem GRow.push {base : Nat} {w0 w' : World} {v' : Value} {l : List (Int × List Nat)} {xs : List Value} {n : Int} {bs : List Nat} {r : Option Addr} {cx : Nat}
    (hx : ∀ (i : Nat) (n : Int) (bs : List Nat), l[i]? = some (n, bs) → ∃ r cx, xs[i * 2]? = some (.int .i64 n) ∧ xs[i * 2 + 1]? = some (.slice r bs.length cx) ∧ Bytes w0 r bs ∧ (r = none → cx = 0) ∧ bs.length ≤ cx) (hl : xs.length = l.length * 2)
    (h' : w'.ownsRow base 40 2 v' (l.length + 1) (xs ++ [.int .i64 n, .slice r bs.length cx])) (hb : Bytes w0 r bs) (h1 : r = none → cx = 0) (h2 : bs.length ≤ cx) : GRow base w0 w' v' (l ++ [(n, bs)]) := by
  refine ⟨_, by rw [List.length_append]; exact h', fun i n' bs' hi => ?_⟩
  by_cases e : i < l.length
  · rw [List.getElem?_append_left e] at hi
    obtain ⟨r', cx', g1, g2, g3⟩ := hx i n' bs' hi
    refine ⟨r', cx', ?_, ?_, g3⟩
    · rw [List.getElem?_append_left (by omega)]; exact g1
    · rw [List.getElem?_append_left (by omega)]; exact g2
  · have hi' := (List.getElem?_eq_some_iff.1 hi).1
    simp at hi'
    obtain rfl : i = l.length := by omega
    rw [List.getElem?_append_right (Nat.le_refl _), Nat.sub_self] at hi
    simp at hi
    obtain ⟨rfl, rfl⟩ := hi
    refine ⟨r, cx, ?_, ?_, hb, h1, h2⟩
    · rw [List.getElem?_append_right (by omega), hl, Nat.sub_self]; rfl
    · rw [List.getElem?_append_right (by omega), hl]
      rw [show l.length * 2 + 1 - l.length * 2 = 1 by omega]; rfl
theorem GRow.at {base : Nat} {w0 w : World} {v : Value} {l : List (Int × List Nat)} (h : GRow base w0 w v l) (hb : Below w0.heap.size w0 w) : ∃ ao cap, v = .slice ao l.length cap ∧ l.length ≤ cap ∧ CAt w ao l := by
  obtain ⟨xs, ho, hx⟩ := h
  have ho' := ho
  rcases ho.2 with ⟨rfl, h0⟩ | ⟨g, cap, cur, rfl, hbb, hh, hc, hm, hs, ht⟩
  · obtain rfl : l = [] := List.eq_nil_of_length_eq_zero h0
    exact ⟨none, 0, rfl, Nat.le_refl _, fun i n bs hi => by simp at hi⟩
  · refine ⟨_, cap, rfl, hc, fun i n bs hi => ?_⟩
    obtain ⟨r, cx, u1, u2, u3, u4, u5⟩ := hx i n bs hi
    refine ⟨g, 0, r, cx, rfl, ?_, ?_, u3.below hb, u4, u5⟩
    · have := World.ownsRow.cells ho' (g := g) rfl _ _ u1
      rwa [Addr.add_lit] at this
    · have := World.ownsRow.cells ho' (g := g) rfl _ _ u2
      rwa [Addr.add_lit, ← Nat.add_assoc] at this

set_option maxRecDepth 20000 in
set_option maxHeartbeats 4000000 in
theorem good_any (al : Option Addr) (n cl : Nat) (lst : List (Int × List Nat)) (hn : lst.length = n) (hmax : n ≤ maxLen) (hml : ∀ c ∈ lst, c.2.length ≤ maxLen) (w : World) (h : CAt w al lst) :
    Calls Tryz.prog 12 #[.slice al n cl] w fun e w' => ∃ ao cap, e = .returned (.slice ao (goodOf (lst.take 8)).length cap) ∧ (goodOf (lst.take 8)).length ≤ cap ∧ CAt w' ao (goodOf (lst.take 8)) ∧ Below w.heap.size w w' := by
  have hmm' : n ≤ 9223372036854775807 := hmax
  obtain ⟨Z, hZ⟩ : ∃ Z : Array Value, #[Value.bool false, .bool false, .bool false, .bool false, .bool false, .bool false, .bool false, .bool false] = Z := ⟨_, rfl⟩
  obtain ⟨W, hW⟩ : ∃ W, w.alloc (.cells Z 69) = W := ⟨_, rfl⟩
  have bW : Below w.heap.size w W := by rw [← hW]; exact (Below.refl _ w).alloc (Nat.le_refl _) _
  have xW : W.heap[w.heap.size]? = some (.cells Z 69 (0, 0)) := by rw [← hW]; exact heap_alloc_new _ _
  have sW : W.heap.size = w.heap.size + 1 := by rw [← hW]; simp
  have ZB : Hid (Bools Z 8 (fun j => hasK (goodOf (lst.take 0)) (j : Int))) := by
    rw [← hZ]
    refine ⟨rfl, fun j hj => ?_⟩
    rw [List.take_zero]
    match j, hj with
    | 0, _ => rfl
    | 1, _ => rfl
    | 2, _ => rfl
    | 3, _ => rfl
    | 4, _ => rfl
    | 5, _ => rfl
    | 6, _ => rfl
    | 7, _ => rfl
  have HH := hide h
  have EN := hide hn
  have ML := hide hml
  have HW := hide (show w.alloc (.cells #[Value.bool false, .bool false, .bool false, .bool false, .bool false, .bool false, .bool false, .bool false] 69) = W by rw [hZ]; exact hW)
  have BW := hide bW
  have XW := hide xW
  have SW := hide sW
  obtain ⟨i0, hi, hz0, hz1, hz2⟩ := infoCell
  clear h hn hml hmax hZ hW bW xW sW
  go_enter Tryz.func12, Tryz.ntmps12
  go_wp2_with fail
  rw [unhide HW]
  clear HW
  go_loopw [5, 3, 6] (fun i s _ wr => ∃ (k : Nat) (cs : Array Value), k ≤ n ∧ k ≤ 8 ∧ i = .int .i64 k ∧ wr.heap[w.heap.size]? = some (.cells cs 69 (0, 0)) ∧ Bools cs 8 (fun j => hasK (goodOf (lst.take k)) (j : Int)) ∧ GRow (w.heap.size + 1) w wr s (goodOf (lst.take k)) ∧ (goodOf (lst.take k)).length ≤ k ∧ Below w.heap.size w wr) (fun i _ _ _ => 8 - (intOf i).toNat)
  case atStart => exact ⟨0, Z, Nat.zero_le _, Nat.zero_le _, rfl, unhide XW, unhide ZB, GRow.nil _ _ _, Nat.le_refl _, unhide BW⟩
  case round =>
    obtain ⟨k, cs, hk, hk8, rfl, hx, hbl, hgr, hlen, hbel⟩ := hrel
    by_cases hlt : k < n ∧ k < 8
    · have q1 : (k : Int) < n := by omega
      have q2 : (k : Int) < 8 := by omega
      have hkl : k < lst.length := by rw [unhide EN]; exact hlt.1
      obtain ⟨⟨N, bs⟩, hkk⟩ : ∃ c, lst[k]? = some c := ⟨_, List.getElem?_eq_getElem hkl⟩
      have TS : Hid (goodOf (lst.take (k + 1)) = addG (goodOf (lst.take k)) (N, bs)) := by
        show _ = _
        rw [← goodOf_snoc, List.take_add_one, hkk]; rfl
      have hm5 := unhide ML (N, bs) (List.mem_of_getElem? hkk)
      obtain ⟨blk, off, r, cx, hal, d1, d2, hby, hr, hcx⟩ := unhide HH k N bs hkk
      have BY := hide hby
      have HR := hide hr
      have HCX := hide hcx
      have blt : blk < w.heap.size := blk_lt d1
      have DD := hide (fun (Y : World) (h : Below w.heap.size w Y) => And.intro ((h.cell (blk_lt d1)).trans d1) ((h.cell (blk_lt d2)).trans d2))
      have e1 := ((unhide DD) _ hbel).1
      have e2 := ((unhide DD) _ hbel).2
      subst hal
      obtain ⟨x, hxx⟩ : ∃ x : Nat, N % 8 = (x : Int) := ⟨(N % 8).toNat, by have := Int.emod_nonneg N (show (8 : Int) ≠ 0 by decide); omega⟩
      have hx8 : x < 8 := by have := Int.emod_lt_of_pos N (show (0 : Int) < 8 by decide); omega
      have WI := hide (within_at N 8 x hxx wr (by decide) (by decide))
      have qx : (x : Int) < 8 := by omega
      obtain ⟨out, hout⟩ : ∃ out, goodOf (lst.take k) = out := ⟨_, rfl⟩
      rw [hout] at hbl hgr hlen TS
      have AD : Hid (addG out (N, bs) = if hasK out (x : Int) = false ∧ bs.length ≤ 500 then out ++ [((x : Int), bs)] else out) := by show _ = _; unfold addG; rw [hxx]
      have hc : wr.cell? ⟨w.heap.size, x, none⟩ = some (.bool (hasK out (x : Int))) := (cell_of_block (i := x) hx).trans (hbl.2 x hx8)
      have hf : wr.frozen? ⟨w.heap.size, x, none⟩ = false := free_of_block hx
      obtain ⟨bl, hbll⟩ : ∃ bl, bs.length = bl := ⟨_, rfl⟩
      rw [hbll] at e2 AD hm5
      have HBL := hide hbll
      have hm5' : bl ≤ 9223372036854775807 := hm5
      have HX := hide hx
      have BL := hide hbl
      have GR := hide hgr
      have BEL := hide hbel
      clear d1 d2 hby hr hcx hkk hkl hout hxx hx hbl hgr hbel hbll hm5
      obtain ⟨hs, hhs⟩ : ∃ hs, hasK out (x : Int) = hs := ⟨_, rfl⟩
      rw [hhs] at hc AD
      have HHS := hide hhs
      clear hhs
      go_wp2_with fail
      refine (unhide WI).mono ?_
      rintro e wq ⟨rfl, hw⟩
      replace hw := hw.symm
      subst hw
      clear WI
      cases hs
      · by_cases hb5 : bl ≤ 500
        · have hb5' : (bl : Int) ≤ 500 := by omega
          rw [if_pos ⟨rfl, hb5⟩] at AD
          obtain ⟨W1, hW1⟩ : ∃ W1, wr.setCell ⟨w.heap.size, x, none⟩ (.bool true) = W1 := ⟨_, rfl⟩
          have x1 : W1.heap[w.heap.size]? = some (.cells (cs.setIfInBounds x (.bool true)) 69 (0, 0)) := by rw [← hW1]; exact setCell_block (unhide HX)
          have k1 : ∀ j, j ≠ w.heap.size → W1.heap[j]? = wr.heap[j]? := fun j hj => by rw [← hW1]; exact Below.heap_setCell wr ⟨w.heap.size, x, none⟩ _ j hj
          have b1 : Below w.heap.size w W1 := by rw [← hW1]; exact (unhide BEL).setCell (p := ⟨w.heap.size, x, none⟩) (Nat.le_refl _) _
          have g1 := (unhide GR).kept (w' := W1) (fun j hj => k1 j (by omega))
          obtain ⟨xs, ho, hxs⟩ := g1
          have f2 := ((unhide DD) _ b1).2
          rw [unhide HBL] at f2
          have HO := hide ho
          have HXS := hide hxs
          have B1 := hide b1
          have X1 := hide x1
          have HW1 := hide hW1
          have s1 : w.heap.size + 1 ≤ W1.heap.size := by have := blk_lt' x1; omega
          clear k1 b1 x1 ho hxs hW1
          go_upto_region 9 with fail
          rw [unhide HW1]
          clear HW1 hc hf
          go_wp2_with (at_builtin; refine wpList_append_own _ rfl (.tmp 38) (.tmp 46) 35 rfl (w.heap.size + 1) 40 i0 (.agg #[.int .i64 0, .slice none 0 0]) 2 32 Tryz.underlying35 hi hz0 hz1 hz2 rfl (by decide) _ out.length xs rfl (own_below (unhide HO) ((Below.refl _ W1).alloc (Nat.le_refl _) _)) ⟨W1.heap.size, 0, none⟩ 1 1 [.int .i64 (x : Int), .slice r bl cx] rfl rfl (news_at (W := W1) (cs := #[.int .i64 (x : Int), .slice r bl cx]) (t := 40)) (cell_one _ _ rfl) (by unfold maxLen; omega) (by omega) (by simp; omega) ?_)
          intro v2 w2 o2 g2 _
          have B2 := hide (((unhide B1).alloc (unhide B1).size (.cells #[.int .i64 (x : Int), .slice r bl cx] 40)).grown g2 (by simp; omega) (fun j hj => by have := ((own_below (unhide HO) ((Below.refl _ W1).alloc (Nat.le_refl _) (.cells #[.int .i64 (x : Int), .slice r bl cx] 40))).lt j hj).1; omega))
          have X2 : Hid (w2.heap[w.heap.size]? = some (.cells (cs.setIfInBounds x (.bool true)) 69 (0, 0))) := by
            refine (g2.block _ (by simp; omega) (fun e => ?_)).trans ((Below.heap_alloc W1 _ _ (blk_lt' (unhide X1))).trans (unhide X1))
            have := ((own_below (unhide HO) ((Below.refl _ W1).alloc (Nat.le_refl _) (.cells #[.int .i64 (x : Int), .slice r bl cx] 40))).lt _ e.symm).1
            omega
          have GR2 : Hid (GRow (w.heap.size + 1) w w2 v2 (out ++ [((x : Int), bs)])) := by
            have o2' := o2
            rw [← unhide HBL] at o2'
            exact GRow.push (unhide HXS) (unhide HO).1 o2' (unhide BY) (unhide HR) (unhide HCX)
          clear o2 g2
          go_wp2
          go_roundw
          case rel =>
            refine ⟨k + 1, _, by omega, by omega, by go_num, unhide X2, ?_, by rw [unhide TS, unhide AD]; exact unhide GR2, ?_, unhide B2⟩
            · rw [unhide TS, unhide AD]
              have := (unhide BL).set x hx8
              refine ⟨this.1, fun j hj => ?_⟩
              rw [this.2 j hj]
              show some (Value.bool (hasK out (j : Int) || decide (j = x))) = some (Value.bool (hasK (out ++ [((x : Int), bs)]) (j : Int)))
              rw [hasK_snoc, show decide (j = x) = decide ((j : Int) = (x : Int)) from decide_eq_decide.2 (by omega)]
            · rw [unhide TS]; exact Nat.le_trans (addG_len _ _) (by omega)
          case measure => simp [intOf]; omega
        · have hb5' : ¬ (bl : Int) ≤ 500 := by omega
          rw [if_neg (fun h => hb5 h.2)] at AD
          go_wp2
          go_roundw
          case rel => exact ⟨k + 1, cs, by omega, by omega, by go_num, unhide HX, by rw [unhide TS, unhide AD]; exact unhide BL, by rw [unhide TS, unhide AD]; exact unhide GR, by rw [unhide TS, unhide AD]; omega, unhide BEL⟩
          case measure => simp [intOf]; omega
      · rw [if_neg (fun h => by cases h.1)] at AD
        go_wp2
        go_roundw
        case rel => exact ⟨k + 1, cs, by omega, by omega, by go_num, unhide HX, by rw [unhide TS, unhide AD]; exact unhide BL, by rw [unhide TS, unhide AD]; exact unhide GR, by rw [unhide TS, unhide AD]; omega, unhide BEL⟩
        case measure => simp [intOf]; omega
    · have et : goodOf (lst.take k) = goodOf (lst.take 8) := by
        by_cases h8 : k = 8
        · rw [h8]
        · have h1 : lst.length ≤ k := by rw [unhide EN]; omega
          rw [List.take_of_length_le h1, List.take_of_length_le (by omega)]
      rw [et] at hgr hlen
      obtain ⟨ao, cap, rfl, hcap, hat⟩ := hgr.at hbel
      have AT := hide hat
      have BEL := hide hbel
      have HLT := hide hlt
      obtain ⟨L, hL⟩ : ∃ L, (goodOf (lst.take 8)).length = L := ⟨_, rfl⟩
      rw [hL] at hcap ⊢
      have HL := hide hL
      clear hgr hat hbel hbl hx et hlt hL
      by_cases hkn : k < n
      · have q1 : (k : Int) < n := by omega
        have q2 : ¬ (k : Int) < 8 := by
          intro h; exact unhide HLT ⟨hkn, by omega⟩
        go_wp2
        go_ret
        exact ⟨ao, cap, by rw [unhide HL]; rfl, by rw [unhide HL]; exact hcap, unhide AT, unhide BEL⟩
      · have q1 : ¬ (k : Int) < n := by omega
        go_wp2
        go_ret
        exact ⟨ao, cap, by rw [unhide HL]; rfl, by rw [unhide HL]; exact hcap, unhide AT, unhide BEL⟩
end Go.Proofs.YtnagfoclbdlenaaGreatDoor

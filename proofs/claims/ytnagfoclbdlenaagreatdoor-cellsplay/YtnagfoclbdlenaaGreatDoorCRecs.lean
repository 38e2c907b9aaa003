/- cells.records, isCell: contracts. -/
import Derived.Test.YtnagfoclbdlenaaGreatDoorCListed
import Derived.Test.YtnagfoclbdlenaaGreatDoorWSmall2
namespace Go.Proofs.YtnagfoclbdlenaaGreatDoor
open Go.RowKit Go.Maps

theorem isCell_any (n : Int) (w : World) : Calls Tryz.prog 37 #[.int .i64 n] w fun e w' => e = .returned (.bool (decide (0 ≤ n ∧ n < 8))) ∧ w' = w := by
  by_cases h1 : 0 ≤ n
  · by_cases h2 : n < 8
    · have e : decide (0 ≤ n ∧ n < 8) = true := decide_eq_true ⟨h1, h2⟩
      rw [e]
      clear e
      go_enter Tryz.func37, Tryz.ntmps37
      go_wp2
      go_ret
      exact ⟨by simp, rfl⟩
    · have e : decide (0 ≤ n ∧ n < 8) = false := decide_eq_false (fun h => h2 h.2)
      rw [e]
      clear e
      go_enter Tryz.func37, Tryz.ntmps37
      go_wp2
      go_ret
      exact ⟨by simp, rfl⟩
  · have e : decide (0 ≤ n ∧ n < 8) = false := decide_eq_false (fun h => h1 h.1)
    rw [e]
    clear e
    go_enter Tryz.func37, Tryz.ntmps37
    go_wp2
    go_ret
    exact ⟨by simp, rfl⟩

/-- cells that can be read: a slice's cells, their bytes. -/
def CAt (w : World) (ao : Option Addr) (l : List (Int × List Nat)) : Prop :=
  ∀ (i : Nat) (n : Int) (bs : List Nat), l[i]? = some (n, bs) → ∃ blk off r cx, ao = some ⟨blk, off, none⟩ ∧ w.cell? ⟨blk, off + i * 2, none⟩ = some (.int .i64 n) ∧ w.cell? ⟨blk, off + i * 2 + 1, none⟩ = some (.slice r bs.length cx) ∧ Bytes w r bs ∧ (r = none → cx = 0) ∧ bs.length ≤ cx
theorem CAt.below {w w' : World} {ao : Option Addr} {l : List (Int × List Nat)} (h : CAt w ao l) (hb : Below w.heap.size w w') : CAt w' ao l := fun i n bs hi => by
  obtain ⟨blk, off, r, cx, e, c1, c2, hby, r1⟩ := h i n bs hi
  refine ⟨blk, off, r, cx, e, by rw [hb.cell (blk_lt c1)]; exact c1, by rw [hb.cell (blk_lt c2)]; exact c2, ⟨hby.1, fun j hj => ?_⟩, r1⟩
  obtain ⟨a, ea, ca⟩ := hby.2 j hj
  exact ⟨a, ea, by rw [hb.cell (blk_lt ca)]; exact ca⟩
theorem CRow.at {base : Nat} {w : World} {v : Value} {l : List (Int × List Nat)} (h : CRow base w v l) : ∃ ao cap, v = .slice ao l.length cap ∧ l.length ≤ cap ∧ cap ≤ maxLen ∧ (ao = none → cap = 0) ∧ CAt w ao l := by
  obtain ⟨xs, ho, hx⟩ := h
  rcases ho.2 with ⟨rfl, h0⟩ | ⟨g, cap, cur, rfl, hb, hh, hc, hm, hs, ht⟩
  · obtain rfl : l = [] := List.eq_nil_of_length_eq_zero h0
    exact ⟨none, 0, rfl, Nat.le_refl _, by decide, fun _ => rfl, fun i n bs hi => by simp at hi⟩
  · refine ⟨_, cap, rfl, hc, hm, (fun h => by cases h), fun i n bs hi => ?_⟩
    obtain ⟨d, u1, u2, u3⟩ := hx i n bs hi
    obtain ⟨va, vc, rfl, q1, _, q3, q4, _⟩ := u3.slice
    have cell : ∀ (j : Nat) (u : Value), xs[j]? = some u → w.cell? ⟨g, j, none⟩ = some u := fun j u hj => by
      rw [← ht] at hj
      obtain ⟨h1, h2⟩ := List.getElem?_eq_some_iff.1 hj
      have hl : j < cur.toList.length := by simp at h1; simp; omega
      rw [cell_of_block hh, ← Array.getElem?_toList, List.getElem?_eq_getElem hl]
      rw [List.getElem_take] at h2; rw [h2]
    exact ⟨g, 0, va, vc, rfl, by rw [Nat.zero_add]; exact cell _ _ u1, by rw [Nat.zero_add]; exact cell _ _ u2, q3, q4, q1⟩
/-- the records of cells. -/
def recOf (c : Int × List Nat) : List Nat := c.1.toNat :: c.2
def recsOf (l : List (Int × List Nat)) : List (List Nat) := l.map recOf

theorem recs_len (l : List (Int × List Nat)) : (recsOf l).length = l.length := by simp [recsOf]
/-- rows of the call's own. -/
def OVals (base : Nat) (w : World) (vs : List Value) (xs : List (List Nat)) : Prop := vs.length = xs.length ∧ ∀ (i : Nat) (v : Value) (x : List Nat), vs[i]? = some v → xs[i]? = some x → Own base w v x
theorem OVals.below {base : Nat} {w w' : World} {vs : List Value} {xs : List (List Nat)} (h : OVals base w vs xs) (hb : Below w.heap.size w w') : OVals base w' vs xs := ⟨h.1, fun i v x hv hx => (h.2 i v x hv hx).below hb⟩
theorem OVals.kept {base b : Nat} {w w' : World} {vs : List Value} {xs : List (List Nat)} {u : Value} {m : Nat} {us : List Value} (h : OVals base w vs xs) (ho : w.ownsRow b 38 1 u m us) (hk : Kept b (fun k => u.ownBlock = some k) w w') : OVals base w' vs xs :=
  ⟨h.1, fun i v x hv hx => by
    have hO := h.2 i v x hv hx
    refine ⟨hk.own hO.1 fun k e hf => ?_, hO.2⟩
    obtain ⟨_, cur, fr, hc⟩ := own_tag ho k hf
    obtain ⟨_, cur', fr', hc'⟩ := own_tag hO.1 k e
    rw [hc] at hc'; cases hc'⟩
theorem OVals.snoc {base : Nat} {w : World} {vs : List Value} {xs : List (List Nat)} {v : Value} {x : List Nat} (h : OVals base w vs xs) (hv : Own base w v x) : OVals base w (vs ++ [v]) (xs ++ [x]) := by
  refine ⟨by rw [List.length_append, List.length_append, h.1]; rfl, fun i u y hu hy => ?_⟩
  by_cases e : i < vs.length
  · rw [List.getElem?_append_left e] at hu
    rw [List.getElem?_append_left (by rw [← h.1]; exact e)] at hy
    exact h.2 i u y hu hy
  · rw [List.getElem?_append_right (by omega)] at hu
    rw [List.getElem?_append_right (by rw [← h.1]; omega)] at hy
    have e0 : i - vs.length = 0 := by have := (List.getElem?_eq_some_iff.1 hu).1; simp at this; omega
    have e1 : i - xs.length = 0 := by rw [← h.1]; exact e0
    rw [e0] at hu
    rw [e1] at hy
    simp at hu hy
    subst hu hy
    exact hv
theorem OVals.vals {base : Nat} {w : World} {vs : List Value} {xs : List (List Nat)} (h : OVals base w vs xs) : RowVals w vs xs :=
  ⟨h.1, fun i v x hv hx => by
    obtain ⟨ao, cap, e, h1, _, h3, h4, _⟩ := (h.2 i v x hv hx).slice
    exact ⟨ao, cap, e, h3, h1, h4⟩⟩
theorem own_byte (base : Nat) (w : World) (hb : base ≤ w.heap.size) {n : Nat} (hn : n < 256) : Own base (w.alloc (.cells #[.int .u8 (n : Int)] 5)) (.slice (some ⟨w.heap.size, 0, none⟩) 1 1) [n] := by
  refine ⟨⟨rfl, Or.inr ⟨_, 1, _, rfl, hb, heap_alloc_new _ _, Nat.le_refl _, by decide, rfl, rfl⟩⟩, fun x hx => by simp at hx; subst hx; exact hn⟩

set_option maxRecDepth 20000 in
set_option maxHeartbeats 1000000 in
theorem records_any (ao : Option Addr) (n cap : Nat) (l : List (Int × List Nat)) (hn : l.length = n) (hn8 : n ≤ 1000) (w : World) (hl : CAt w ao l) (hk : ∀ c ∈ l, (0 ≤ c.1 ∧ c.1 < 8) ∧ c.2.length ≤ 1000000) :
    Calls Tryz.prog 43 #[.slice ao n cap] w fun e w' => ∃ ao' cap', e = .returned (.slice ao' n cap') ∧ RowsArg w' ao' (recsOf l) ∧ (ao' = none → cap' = 0) ∧ Below w.heap.size w w' := by
  have HL := hide hl
  have HN := hide hn
  have HK := hide hk
  clear hl hn hk
  go_enter Tryz.func43, Tryz.ntmps43
  go_upto_region 3 with fail
  go_loopg [3, 8] n (fun gg lv iv wr => ∃ (k : Nat) (vs : List Value) (ao' : Option Addr) (cap' : Nat), k + gg = n ∧ iv = .int .i64 (k : Int) ∧ lv = .slice ao' k cap' ∧ wr.ownsRow w.heap.size 38 1 (.slice ao' k cap') k vs ∧ OVals w.heap.size wr vs (recsOf (l.take k)) ∧ Below w.heap.size w wr)
  case atStart => exact ⟨0, [], none, 0, by omega, rfl, rfl, World.ownsRow_nil _ _ _ _, ⟨rfl, fun i v x h => by simp at h⟩, Below.refl _ _⟩
  case round =>
    obtain ⟨k, vs, ao', cap', hgk, rfl, rfl, hown, hov, hlow⟩ := hrel
    have hsz := hlow.size
    by_cases hlt : k < n
    · obtain ⟨c, hc⟩ : ∃ c, l[k]? = some c := ⟨_, List.getElem?_eq_getElem (by rw [unhide HN]; exact hlt)⟩
      obtain ⟨x, bs⟩ := c
      have hkI : (k : Int) < (n : Int) := by omega
      obtain ⟨hx8, hbl⟩ := unhide HK _ (List.mem_of_getElem? hc)
      obtain ⟨blk, off, r, cx, rfl, c1, c2, hby, hrn, hbc⟩ := ((unhide HL).below hlow) k x bs hc
      obtain ⟨X, rfl⟩ : ∃ X : Nat, x = (X : Int) := ⟨x.toNat, by have := hx8.1; simp only at this; omega⟩
      have hX8 : X < 8 := by have := hx8.2; simp only at this; omega
      obtain ⟨m, hm⟩ : ∃ m, bs.length = m := ⟨_, rfl⟩
      rw [hm] at c2 hbc
      have hbl' : m ≤ 1000000 := by rw [← hm]; exact hbl
      obtain ⟨V, hV⟩ : ∃ V, wr.alloc (.cells #[.int .i64 (X : Int), .slice r m cx] 40) = V := ⟨_, rfl⟩
      have bV : Below wr.heap.size wr V := by rw [← hV]; exact (Below.refl _ wr).alloc (Nat.le_refl _) _
      have vC : V.heap[wr.heap.size]? = some (.cells #[.int .i64 (X : Int), .slice r m cx] 40 (0, 0)) := by rw [← hV]; exact heap_alloc_new _ _
      obtain ⟨C, hC⟩ : ∃ C, wr.heap.size = C := ⟨_, rfl⟩
      rw [hC] at vC
      have v0 : V.cell? ⟨C, 0, none⟩ = some (.int .i64 (X : Int)) := (cell_of_block vC).trans rfl
      have sV := bV.size
      obtain ⟨V2, hV2⟩ : ∃ V2, V.alloc (.cells #[.int .u8 (X : Int)] 5) = V2 := ⟨_, rfl⟩
      have bV2 : Below V.heap.size V V2 := by rw [← hV2]; exact (Below.refl _ V).alloc (Nat.le_refl _) _
      have o2 : Own w.heap.size V2 (.slice (some ⟨V.heap.size, 0, none⟩) 1 1) [X] := by rw [← hV2]; exact own_byte _ V (by omega) (by omega)
      have vC2 : V2.heap[C]? = some (.cells #[.int .i64 (X : Int), .slice r m cx] 40 (0, 0)) := (bV2.block C (blk_lt' vC)).trans vC
      have v1 : (V.alloc (.cells #[.int .u8 (X : Int)] 5)).cell? ⟨C, 1, none⟩ = some (.slice r m cx) := by rw [hV2]; exact (cell_of_block vC2).trans rfl
      have sV2 := bV2.size
      have by2 : Bytes V2 r bs := ⟨hby.1, fun j hj => by
        obtain ⟨a, ea, ca⟩ := hby.2 j hj
        have hl1 := blk_lt ca
        exact ⟨a, ea, by rw [bV2.cell (by omega), bV.cell hl1]; exact ca⟩⟩
      have OW2 := hide (own_below (own_below hown bV) bV2)
      have OVV := hide (hov.below bV)
      have BVV := hide bV2
      have LO2 := hide ((hlow.trans (bV.mono hsz)).trans (bV2.mono (by omega)))
      have hb2 : w.heap.size ≤ V2.heap.size := by omega
      have O2 := hide o2
      have BY2 := hide by2
      have HM := hide hm
      have HRN := hide hrn
      have HV := hide hV
      have HV2 := hide hV2
      have HC := hide hC
      have HG := hide hgk
      have HTK : Hid (recsOf (l.take (k + 1)) = recsOf (l.take k) ++ [X :: bs]) := by
        show _ = _
        rw [List.take_add_one, hc]
        simp [recsOf, recOf]
      clear hown hov hlow bV vC hV hC bV2 o2 vC2 hV2 by2 hm hrn hby hgk hc hbl hx8
      go_upto_region 5 with fail
      rw [unhide HV, unhide HC]
      clear HV HC c1 c2
      go_wp2_with (first
        | (at_builtin
           rw [unhide HV2]
           refine wpList_append_bytes rfl (.tmp 16) (.tmp 18) rfl w.heap.size _ [X] 1 rfl rfl (unhide O2) r m cx bs rfl (unhide HM) (unhide BY2) (unhide HRN) (by omega) hb2 ?_
           intro ao3 cap3 w3 o3 k3 _
           obtain ⟨W4, hW4⟩ : ∃ W4, w3.alloc (.cells #[.slice ao3 (1 + m) cap3] 38) = W4 := ⟨_, rfl⟩
           have b4 : Below w3.heap.size w3 W4 := by rw [← hW4]; exact (Below.refl _ w3).alloc (Nat.le_refl _) _
           have ow3 : w3.ownsRow w.heap.size 38 1 (.slice ao' k cap') k vs := k3.own (unhide OW2) fun j e hf => by
             obtain ⟨_, cur, fr, hc⟩ := own_tag (unhide O2).1 j hf
             obtain ⟨_, cur', fr', hc'⟩ := own_tag (unhide OW2) j e
             rw [hc] at hc'; cases hc'
           have bW3 : Below V.heap.size V w3 := by
             obtain ⟨a1, a2, a3, a4, a5⟩ := k3.1
             exact (unhide BVV).trans ⟨a1, a2, a3, a4, fun j hj => k3.2 j (by omega) (fun e => by have e' : some V.heap.size = some j := e; simp at e'; omega)⟩
           have OV3 := hide ((unhide OVV).below bW3)
           have s3 := k3.size
           have s4 := b4.size
           have hb4 : w.heap.size ≤ W4.heap.size := by omega
           have OW4 := hide (own_below ow3 b4)
           have O4 := hide (o3.below b4)
           have K3 := hide k3
           have B4 := hide b4
           have HW4 := hide hW4
           have NW : Hid (∀ i u, [Value.slice ao3 (1 + m) cap3][i]? = some u → ∃ ad, some (⟨w3.heap.size, 0, none⟩ : Addr) = some ad ∧ W4.cell? (ad.add i) = some u) := fun i u h => ⟨_, rfl, by rw [← hW4]; exact news_at i u h⟩
           clear o3 k3 ow3 b4 hW4 bW3)
        | (at_builtin
           rw [unhide HW4]
           refine wpList_append_rows rfl (.tmp 12) (.tmp 20) rfl w.heap.size _ vs k rfl (unhide OW4) (some ⟨w3.heap.size, 0, none⟩) 1 1 [.slice ao3 (1 + m) cap3] rfl rfl (unhide NW) (one_slice _ _ _) (fun e => by cases e) (by omega) hb4 ?_
           intro ao5 cap5 w5 o5 k5 _
           have O5 := hide o5
           have K5 := hide k5
           clear o5 k5))
      have FIN : Hid (OVals w.heap.size w5 (vs ++ [.slice ao3 (1 + m) cap3]) (recsOf (l.take (k + 1))) ∧ Below w.heap.size w w5) := by
        rw [unhide HTK]
        refine ⟨(((unhide OV3).below (unhide B4)).snoc (unhide O4)).kept (unhide OW4) (unhide K5), ?_⟩
        exact (((unhide LO2).trans (unhide K3).1).trans ((unhide B4).mono (by omega))).trans (unhide K5).1
      clear OV3 B4 O4 OW4 K5 K3 LO2 OVV BVV
      go_wp2
      go_roundg (n - (k + 1))
      case measure => have := unhide HG; omega
      case rel => exact ⟨k + 1, _, ao5, cap5, by omega, by go_num, rfl, unhide O5, (unhide FIN).1, (unhide FIN).2⟩
    · have hk : k = n := by omega
      have hkI : ¬ (k : Int) < (n : Int) := by omega
      rw [hk] at hown hov
      rw [hk]
      have et : l.take n = l := by rw [← unhide HN, List.take_length]
      rw [et] at hov
      have FIN : Hid (RowsArg wr ao' (recsOf l) ∧ (ao' = none → cap' = 0)) := by
        obtain ⟨ao2, cap2, e, _, _, hc, hra⟩ := rows_arg hown (by rw [recs_len, unhide HN]) hov.vals
        cases e
        exact ⟨hra, hc⟩
      have HLO := hide hlow
      clear hown hov hlow et hgk hk hkI
      have hkI : ¬ (n : Int) < (n : Int) := by omega
      go_wp2
      go_ret
      exact ⟨ao', cap', rfl, (unhide FIN).1, (unhide FIN).2, unhide HLO⟩
end Go.Proofs.YtnagfoclbdlenaaGreatDoor

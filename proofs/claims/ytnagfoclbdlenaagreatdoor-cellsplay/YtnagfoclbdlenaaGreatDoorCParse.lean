/- cells.parsed: a contract. -/
import Derived.Test.YtnagfoclbdlenaaGreatDoorCSet
import Derived.Deep.AppendLies
namespace Go.Proofs.YtnagfoclbdlenaaGreatDoor
open Go.RowKit Go.Maps

/-- the cells of a row that is being built: the bytes lie in w. -/
def CVals (w : World) (xs : List Value) (l : List (Int × List Nat)) : Prop :=
  ∀ (i : Nat) (n : Int) (bs : List Nat), l[i]? = some (n, bs) → ∃ r cx, xs[i * 2]? = some (.int .i64 n) ∧ xs[i * 2 + 1]? = some (.slice r bs.length cx) ∧ Bytes w r bs ∧ (r = none → cx = 0) ∧ bs.length ≤ cx
theorem CVals.snoc {w : World} {xs : List Value} {l : List (Int × List Nat)} {n : Int} {bs : List Nat} {r : Option Addr} {cx : Nat} (h : CVals w xs l) (hl : xs.length = l.length * 2) (hb : Bytes w r bs) (hr : r = none → cx = 0) (hc : bs.length ≤ cx) : CVals w (xs ++ [.int .i64 n, .slice r bs.length cx]) (l ++ [(n, bs)]) := fun i m cs hi => by
  by_cases e : i < l.length
  · rw [List.getElem?_append_left e] at hi
    obtain ⟨r', cx', u1, u2, u3⟩ := h i m cs hi
    exact ⟨r', cx', by rw [List.getElem?_append_left (by omega)]; exact u1, by rw [List.getElem?_append_left (by omega)]; exact u2, u3⟩
  · rw [List.getElem?_append_right (by omega)] at hi
    have hi0 : i = l.length := by have := (List.getElem?_eq_some_iff.1 hi).1; simp at this; omega
    subst hi0
    simp at hi
    obtain ⟨rfl, rfl⟩ := hi
    refine ⟨r, cx, ?_, ?_, hb, hr, hc⟩
    · rw [List.getElem?_append_right (by omega), show l.length * 2 - xs.length = 0 by omega]; rfl
    · rw [List.getElem?_append_right (by omega), show l.length * 2 + 1 - xs.length = 1 by omega]; rfl
theorem CVals.at {base n : Nat} {w0 w : World} {v : Value} {xs : List Value} {l : List (Int × List Nat)} (ho : w.ownsRow base 40 2 v n xs) (hn : l.length = n) (hx : CVals w0 xs l) (hb : Below w0.heap.size w0 w) : ∃ ao cap, v = .slice ao n cap ∧ CAt w ao l := by
  rcases ho.2 with ⟨rfl, h0⟩ | ⟨g, cap, cur, rfl, _, hh, hc, hm, hs, ht⟩
  · obtain rfl : l = [] := List.eq_nil_of_length_eq_zero (by omega)
    exact ⟨none, 0, by rw [h0], fun i n bs hi => by simp at hi⟩
  · refine ⟨_, cap, rfl, fun i n bs hi => ?_⟩
    obtain ⟨r, cx, u1, u2, q3, q4, q1⟩ := hx i n bs hi
    have cell : ∀ (j : Nat) (u : Value), xs[j]? = some u → w.cell? ⟨g, j, none⟩ = some u := fun j u hj => by
      rw [← ht] at hj
      obtain ⟨h1, h2⟩ := List.getElem?_eq_some_iff.1 hj
      have hl : j < cur.toList.length := by simp at h1; simp; omega
      rw [cell_of_block hh, ← Array.getElem?_toList, List.getElem?_eq_getElem hl]
      rw [List.getElem_take] at h2; rw [h2]
    exact ⟨g, 0, r, cx, rfl, by rw [Nat.zero_add]; exact cell _ _ u1, by rw [Nat.zero_add]; exact cell _ _ u2, q3.below hb, q4, q1⟩

set_option maxRecDepth 20000 in
set_option maxHeartbeats 1000000 in
theorem parsed_any (ao : Option Addr) (n cap : Nat) (l : List (Int × List Nat)) (hn : l.length = n) (hn8 : n ≤ 1000) (w : World) (hr : RowsArg w ao (recsOf l)) (hk : ∀ c ∈ l, (0 ≤ c.1 ∧ c.1 < 8) ∧ c.2.length ≤ 1000000) :
    Calls Tryz.prog 26 #[.slice ao n cap] w fun e w' => ∃ ao' cap', e = .returned (.slice ao' n cap') ∧ CAt w' ao' l ∧ Below w.heap.size w w' := by
  have HR := hide hr
  have HN := hide hn
  have HK := hide hk
  clear hr hn hk
  go_enter Tryz.func26, Tryz.ntmps26
  go_upto_region 3 with fail
  go_loopg [3, 8] n (fun gg lv iv wr => ∃ (k : Nat) (xs : List Value), k + gg = n ∧ iv = .int .i64 (k : Int) ∧ wr.ownsRow w.heap.size 40 2 lv k xs ∧ CVals w xs (l.take k) ∧ Below w.heap.size w wr)
  case atStart => exact ⟨0, [], by omega, rfl, ⟨rfl, Or.inl ⟨rfl, rfl⟩⟩, fun i n bs h => by simp at h, Below.refl _ _⟩
  case round =>
    obtain ⟨k, xs, hgk, rfl, hown, hcv, hlow⟩ := hrel
    have hsz := hlow.size
    by_cases hlt : k < n
    · obtain ⟨cc, hcc⟩ : ∃ cc, l[k]? = some cc := ⟨_, List.getElem?_eq_getElem (by rw [unhide HN]; exact hlt)⟩
      obtain ⟨x, bs⟩ := cc
      have hkI : (k : Int) < (n : Int) := by omega
      obtain ⟨hx8, hbl⟩ := unhide HK _ (List.mem_of_getElem? hcc)
      simp only at hx8 hbl
      obtain ⟨X, rfl⟩ : ∃ X : Nat, x = (X : Int) := ⟨x.toNat, by omega⟩
      have hX8 : X < 8 := by omega
      have hgd : (recsOf l).getD k [] = X :: bs := by
        rw [List.getD_eq_getElem?_getD, recsOf, List.getElem?_map, hcc]; simp [recOf]
      obtain ⟨a, r, cr, rfl, cA, hby, hrc, hrn⟩ := unhide HR k (by rw [recs_len, unhide HN]; exact hlt)
      rw [hgd] at cA hby hrc
      obtain ⟨L, hL⟩ : ∃ L, (X :: bs).length = L := ⟨_, rfl⟩
      rw [hL] at cA hrc
      have hL1 : bs.length + 1 = L := hL
      obtain ⟨aa, rfl⟩ : ∃ aa, r = some aa := by
        cases r with
        | some aa => exact ⟨aa, rfl⟩
        | none => have := hrn rfl; omega
      have cA' : wr.cell? (a.add k) = some (.slice (some aa) L cr) := by rw [hlow.cell (blk_lt cA)]; exact cA
      have cX : wr.cell? aa = some (.int .u8 (X : Int)) := by
        obtain ⟨a', ea, ca⟩ := hby.2 0 (by simp)
        cases ea
        rw [hlow.cell (by have := blk_lt ca; exact this)]; exact ca
      have hLI : ¬ (L : Int) = 0 := by omega
      have hLJ : (1 : Int) ≤ (L : Int) := by omega
      have hL2 : L ≤ 1000001 := by omega
      have ISC : Hid (∀ w0 : World, Calls Tryz.prog 37 #[.int .i64 (X : Int)] w0 fun e w' => e = .returned (.bool true) ∧ w' = w0) := fun w0 => by
        have h := isCell_any (X : Int) w0
        rw [decide_eq_true hx8] at h
        exact h
      have HSX : Hid (∀ Y : World, Below w.heap.size w Y → Y.cell? aa = some (.int .u8 (X : Int))) := fun Y hY => by
        obtain ⟨a', ea, ca⟩ := hby.2 0 (by simp)
        cases ea
        have hlt' : aa.block < w.heap.size := blk_lt ca
        rw [hY.cell hlt']; exact ca
      have HBY := hide hby
      have HOW := hide hown
      have HCV := hide hcv
      have HLO := hide hlow
      have HG := hide hgk
      have HTK : Hid (l.take (k + 1) = l.take k ++ [((X : Int), bs)]) := by show _ = _; rw [List.take_add_one, hcc]; rfl
      clear hown hcv hlow hgk hcc hgd hby hL hrn cA hbl hx8
      have HWR : Hid (IntKind.i64.wrap (X : Int) = (X : Int)) := IntWalk.i64_in _ (by omega)
      obtain ⟨R, hR⟩ : ∃ R, (if cr = 1 then some aa else some (⟨aa.block, aa.off + 1, none⟩ : Addr)) = R := ⟨_, rfl⟩
      have HLM : Hid (L - 1 = bs.length) := by show _ = _; omega
      have hbR : Bytes w R bs := by
        refine ⟨fun y hy => (unhide HBY).1 y (List.mem_cons_of_mem _ hy), fun i hi => ?_⟩
        rw [if_neg (by omega)] at hR
        obtain ⟨a', ea, ca⟩ := (unhide HBY).2 (i + 1) (by simp; omega)
        cases ea
        refine ⟨_, hR.symm, ?_⟩
        have e1 : (⟨aa.block, aa.off + 1, none⟩ : Addr).add i = aa.add (i + 1) := by
          unfold Addr.add
          rw [if_neg (by omega : ¬ i + 1 = 0)]
          by_cases h0 : i = 0
          · subst h0; rfl
          · rw [if_neg h0]; simp; omega
        rw [e1, ca]; rfl
      have hRn : R = none → cr - 1 = 0 := fun e => by rw [← hR] at e; split at e <;> cases e
      have HBR := hide hbR
      have HRN := hide hRn
      have HRR := hide hR
      obtain ⟨V5, hV5⟩ : ∃ V5, (wr.alloc (.cells #[.int .i64 (X : Int), .slice R bs.length (cr - 1)] 40)).drew = V5 := ⟨_, rfl⟩
      have b5 : Below wr.heap.size wr V5 := by rw [← hV5]; exact ((Below.refl _ wr).alloc (Nat.le_refl _) _).drew
      have nw : ∀ i u, [Value.int .i64 (X : Int), .slice R bs.length (cr - 1)][i]? = some u → V5.cell? ((⟨wr.heap.size, 0, none⟩ : Addr).add i) = some u := by rw [← hV5]; exact fun i u h => news_at i u h
      have s5 := b5.size
      have O5 := hide (own_below (unhide HOW) b5)
      have B5 := hide ((unhide HLO).trans (b5.mono hsz))
      have HV5 := hide hV5
      have NW := hide nw
      have HXL : Hid (xs.length = (l.take k).length * 2) := by
        show _ = _
        have h1 := (unhide HOW).1
        rw [List.length_take, unhide HN, Nat.min_eq_left (by omega)]; exact h1
      obtain ⟨i0, hi0, hz0, hz1, hz2⟩ := infoCell
      have hb5 : w.heap.size ≤ V5.heap.size := by omega
      have hbc : bs.length ≤ cr - 1 := by omega
      have HBC := hide hbc
      clear hR hbR hRn b5 nw hV5 hbc
      go_upto_region 6 with (go_at_call 37; refine (unhide ISC _).mono ?_; rintro e wq ⟨rfl, hw⟩; replace hw := hw.symm; subst hw)
      clear cA'
      go_region_held_law? (fun Y => Y.cell? aa = some (.int .u8 (X : Int))) (first | exact (unhide HSX) _ (unhide B6) | exact (unhide HSX) _ (unhide HLO).drew | exact (unhide HSX) _ ((unhide HLO).alloc hsz _).drew)
        ((rw [unhide HWR, unhide HRR, unhide HLM, unhide HV5]
          refine step_append_lies _ (by rfl) (.tmp 23) (.tmp 31) 35 (by rfl) w.heap.size 40 i0 (.agg #[.int .i64 0, .slice none 0 0]) 2 32 Tryz.underlying35 hi0 hz0 hz1 hz2 rfl (by decide) _ k xs (by rfl) (unhide O5) ⟨wr.heap.size, 0, none⟩ 1 1 [.int .i64 (X : Int), .slice R bs.length (cr - 1)] (by rfl) rfl (unhide NW) (cell_one (X : Int) (.slice R bs.length (cr - 1)) rfl) (by decide) (by unfold maxLen; omega) (by omega) hb5 _ rfl ?_
          intro g cap6 w6 own6 grow6 _ _
          have B6 := hide ((unhide B5).grown grow6 hb5 (fun j hj => (own_tag (unhide O5) j hj).1))
          have O6 := hide own6
          clear own6 grow6))
      have FIN : Hid (CVals w (xs ++ [.int .i64 (X : Int), .slice R bs.length (cr - 1)]) (l.take (k + 1))) := by
        rw [unhide HTK]
        exact (unhide HCV).snoc (unhide HXL) (unhide HBR) (unhide HRN) (unhide HBC)
      clear HCV HXL HBR HRN
      go_wp2
      go_roundg (n - (k + 1))
      case measure => have := unhide HG; omega
      case rel => exact ⟨k + 1, _, by omega, by go_num, unhide O6, unhide FIN, unhide B6⟩
    · have hk : k = n := by omega
      have hkI : ¬ (k : Int) < (n : Int) := by omega
      rw [hk] at hown hcv
      have et : l.take n = l := by rw [← unhide HN, List.take_length]
      rw [et] at hcv
      obtain ⟨ao', cap', rfl, hat⟩ := CVals.at hown (unhide HN) hcv hlow
      have HAT := hide hat
      have HLO := hide hlow
      clear hown hcv hlow et hgk hk hat
      go_wp2
      go_ret
      exact ⟨ao', ⟨cap', rfl⟩, unhide HAT, unhide HLO⟩
end Go.Proofs.YtnagfoclbdlenaaGreatDoor

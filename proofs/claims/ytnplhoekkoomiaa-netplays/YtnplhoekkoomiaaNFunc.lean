/- slices.IndexFunc, slices.DeleteFunc at a net's cuts: contracts. -/
import Derived.Test.YtnplhoekkoomiaaNOps
namespace Go.Proofs.Ytnplhoekkoomiaa
open Go.RowKit Go.Maps

abbrev cutsOf (p : Nat) : Value := .func (.func 19) #[.pointer (some ⟨p, 0, none⟩)] #[]
/-- what IndexFunc finds. -/
def Found (side : List Int) (ps : List (Nat × M)) (r : Int) : Prop :=
  (r = -1 ∧ ∀ (j : Nat) (q : Nat × M), ps[j]? = some q → passB side q.2 = true) ∨ ∃ x : Nat, r = (x : Int) ∧ x < ps.length ∧ (∀ (j : Nat) (q : Nat × M), j < x → ps[j]? = some q → passB side q.2 = true) ∧ ∀ q : Nat × M, ps[x]? = some q → passB side q.2 = false

theorem index_nil (p : Nat) (w : World) : Calls Try.prog 27 #[.slice none 0 0, cutsOf p] w fun e w' => e = .returned (.int .i64 (-1)) ∧ w' = w := by
  go_enter Try.func27, Try.ntmps27
  go_wp2
  refine wp_loop_rounds 1 ?_; rw [rounds_succ]
  go_wp2
  go_ret
  exact ⟨rfl, rfl⟩

set_option maxRecDepth 20000 in
set_option maxHeartbeats 1000000 in
theorem index_any {base p g off n cap : Nat} {v0 mv lv : Value} {cur : Array Value} {ps : List (Nat × M)} {side : List Int} (w : World) (p2 : w.heap[p]? = some (.cells #[v0, mv, lv] 53 (0, 0))) (p5 : Sd base w mv side)
    (hh : w.heap[g]? = some (.cells cur 55 (0, 0))) (hn : ps.length = n) (hnm : n ≤ 1000000) (hp : ∀ x q, ps[x]? = some q → cur[off + x]? = some (.pointer (some ⟨q.1, 0, none⟩))) (hm : ∀ q ∈ ps, w.heap[q.1]? = some (.cells (M.cells q.2) 36 (0, 0)) ∧ M.wf q.2) :
    Calls Try.prog 27 #[.slice (some ⟨g, off, none⟩) n cap, cutsOf p] w fun e w' => (∃ r : Int, e = .returned (.int .i64 r) ∧ Found side ps r) ∧ Below w.heap.size w w' := by
  have P2 := hide p2
  have P5 := hide p5
  have HH := hide hh
  have HN := hide hn
  have HP := hide hp
  have HM := hide hm
  clear p2 p5 hh hn hp hm
  go_enter Try.func27, Try.ntmps27
  go_wp2_with fail
  go_loopg [8] n (fun gg iv wr => ∃ k : Nat, k + gg = n ∧ iv = .int .i64 (k : Int) ∧ (∀ (j : Nat) (q : Nat × M), j < k → ps[j]? = some q → passB side q.2 = true) ∧ Below w.heap.size w wr)
  case atStart => exact ⟨0, by omega, rfl, fun j q hj => absurd hj (by omega), Below.refl _ _⟩
  case round =>
    obtain ⟨k, hgk, rfl, hpass, hbl⟩ := hrel
    have hkn : k ≤ n := by omega
    by_cases hlt : k < n
    · obtain ⟨q, hq⟩ : ∃ q, ps[k]? = some q := ⟨_, List.getElem?_eq_getElem (by rw [unhide HN]; exact hlt)⟩
      have hmq := unhide HM q (List.mem_of_getElem? hq)
      have hb := (hbl.block q.1 (blk_lt' hmq.1)).trans hmq.1
      have hat := MAt.of_block hb
      have cb : wr.cell? ⟨g, off + k, none⟩ = some (.pointer (some ⟨q.1, 0, none⟩)) := (cell_of_block ((hbl.block g (blk_lt' (unhide HH))).trans (unhide HH))).trans (unhide HP k q hq)
      have C := cuts_any (base := base) (side := side) (mb := q.1) (mo := 0) (f := q.2.f) (t := q.2.t) wr ((hbl.block p (blk_lt' (unhide P2))).trans (unhide P2)) ((unhide P5).below hbl) (hat 0 _ rfl) (hat 1 _ rfl) hmq.2.1 hmq.2.2
      have HQ := hide hq
      have HG := hide hgk
      have HPS := hide hpass
      have HB := hide hbl
      clear hmq hb hat hgk hpass hbl hq
      by_cases hcut : cutB side q.2.f q.2.t = true
      · rw [hcut] at C
        have HC := hide C
        have HCU := hide hcut
        clear C hcut
        go_wp2_with fail
        refine (unhide HC).mono ?_
        rintro e w1 ⟨rfl, b1⟩
        have HB1 := hide ((unhide HB).trans (b1.mono (unhide HB).size))
        clear b1
        go_wp2
        go_ret
        refine ⟨⟨(k : Int), rfl, Or.inr ⟨k, rfl, by rw [unhide HN]; exact hlt, unhide HPS, fun q' hq' => ?_⟩⟩, unhide HB1⟩
        rw [unhide HQ] at hq'; cases hq'
        simp [passB, unhide HCU]
      · rw [Bool.not_eq_true] at hcut
        rw [hcut] at C
        have HC := hide C
        have HCU := hide hcut
        clear C hcut
        go_wp2_with fail
        refine (unhide HC).mono ?_
        rintro e w1 ⟨rfl, b1⟩
        have HB1 := hide ((unhide HB).trans (b1.mono (unhide HB).size))
        clear b1
        go_wp2
        go_roundg (n - (k + 1))
        case measure => have := unhide HG; omega
        case rel =>
          refine ⟨k + 1, by omega, by go_num, fun j q' hj hq' => ?_, unhide HB1⟩
          by_cases hjk : j < k
          · exact unhide HPS j q' hjk hq'
          · obtain rfl : j = k := by omega
            rw [unhide HQ] at hq'; cases hq'
            simp [passB, unhide HCU]
    · obtain rfl : k = n := by omega
      have HPS := hide hpass
      have HB := hide hbl
      clear hpass hbl hgk
      go_wp2
      go_ret
      refine ⟨⟨-1, rfl, Or.inl ⟨rfl, fun j q hq => ?_⟩⟩, unhide HB⟩
      exact unhide HPS j q (by have := (List.getElem?_eq_some_iff.1 hq).1; rw [unhide HN] at this; exact this) hq

def keep (side : List Int) (ps : List (Nat × M)) : List (Nat × M) := ps.filter (fun q => passB side q.2)
theorem keep_all {side : List Int} {ps : List (Nat × M)} (h : ∀ (j : Nat) (q : Nat × M), ps[j]? = some q → passB side q.2 = true) : keep side ps = ps := by
  apply List.filter_eq_self.2
  intro q hq
  obtain ⟨j, hj⟩ := List.getElem?_of_mem hq
  exact h j q hj
theorem keep_snoc (side : List Int) (ps : List (Nat × M)) (q : Nat × M) : keep side (ps ++ [q]) = keep side ps ++ (if passB side q.2 = true then [q] else []) := by
  unfold keep
  rw [List.filter_append]
  cases h : passB side q.2 <;> simp [h]
theorem keep_le (side : List Int) (ps : List (Nat × M)) : (keep side ps).length ≤ ps.length := List.length_filter_le _ _

/-- what the loop of DeleteFunc holds at j. -/
structure Dl (base : Nat) (w wr : World) (g off : Nat) (size : Nat) (side : List Int) (ps : List (Nat × M)) (j : Nat) (cur : Array Value) : Prop where
  blk : wr.heap[g]? = some (.cells cur 55 (0, 0))
  size : cur.size = size
  front : ∀ x (q : Nat × M), (keep side (ps.take j))[x]? = some q → cur[off + x]? = some (.pointer (some ⟨q.1, 0, none⟩))
  back : ∀ x (q : Nat × M), j ≤ x → ps[x]? = some q → cur[off + x]? = some (.pointer (some ⟨q.1, 0, none⟩))
  only : Only base [55] w wr

theorem Dl.below {base : Nat} {w wr w2 : World} {g off size : Nat} {side : List Int} {ps : List (Nat × M)} {j : Nat} {cur : Array Value} (h : Dl base w wr g off size side ps j cur) (hb : Below wr.heap.size wr w2) (hs : base ≤ wr.heap.size) : Dl base w w2 g off size side ps j cur :=
  ⟨(hb.block g (blk_lt' h.blk)).trans h.blk, h.size, h.front, h.back, h.only.trans (Only.of_below hb hs)⟩
theorem Dl.lose {base : Nat} {w wr : World} {g off size : Nat} {side : List Int} {ps : List (Nat × M)} {j : Nat} {cur : Array Value} {q : Nat × M} (h : Dl base w wr g off size side ps j cur) (hq : ps[j]? = some q) (hc : passB side q.2 = false) : Dl base w wr g off size side ps (j + 1) cur ∧ keep side (ps.take (j + 1)) = keep side (ps.take j) := by
  have e : keep side (ps.take (j + 1)) = keep side (ps.take j) := by
    rw [List.take_add_one, hq, Option.toList_some, keep_snoc, if_neg (by rw [hc]; decide), List.append_nil]
  exact ⟨⟨h.blk, h.size, fun x q' hx => h.front x q' (by rw [← e]; exact hx), fun x q' hx hq' => h.back x q' (by omega) hq', h.only⟩, e⟩
theorem Dl.keeps {base : Nat} {w wr : World} {g off size i : Nat} {side : List Int} {ps : List (Nat × M)} {j : Nat} {cur : Array Value} {q : Nat × M} (h : Dl base w wr g off size side ps j cur) (hq : ps[j]? = some q) (hc : passB side q.2 = true) (hi : i = (keep side (ps.take j)).length) (hij : i < j) (hin : off + i < size) (hg : base ≤ g) :
    Dl base w (wr.setCell ⟨g, off + i, none⟩ (.pointer (some ⟨q.1, 0, none⟩))) g off size side ps (j + 1) (cur.setIfInBounds (off + i) (.pointer (some ⟨q.1, 0, none⟩))) ∧ keep side (ps.take (j + 1)) = keep side (ps.take j) ++ [q] := by
  have e : keep side (ps.take (j + 1)) = keep side (ps.take j) ++ [q] := by
    rw [List.take_add_one, hq, Option.toList_some, keep_snoc, if_pos hc]
  refine ⟨⟨setCell_block h.blk, by rw [Array.size_setIfInBounds]; exact h.size, fun x q' hx => ?_, fun x q' hx hq' => ?_, h.only.setCell (p := ⟨g, off + i, none⟩) hg _ h.blk (by simp)⟩, e⟩
  · rw [e, List.getElem?_append] at hx
    split at hx
    · rename_i h0
      rw [Array.getElem?_setIfInBounds, if_neg (by omega)]; exact h.front x q' hx
    · rename_i h0
      have hx1 : x - (keep side (ps.take j)).length < 1 := by have := (List.getElem?_eq_some_iff.1 hx).1; simpa using this
      obtain rfl : x = i := by omega
      rw [← hi] at hx
      simp at hx
      subst hx
      rw [Array.getElem?_setIfInBounds, if_pos rfl, if_pos (by rw [h.size]; exact hin)]
  · rw [Array.getElem?_setIfInBounds, if_neg (by omega)]; exact h.back x q' (by omega) hq'

set_option maxRecDepth 20000 in
set_option maxHeartbeats 2000000 in
theorem deleteFunc_any {base p g off n cap : Nat} {v0 mv lv : Value} {cur : Array Value} {ps : List (Nat × M)} {side : List Int} (w : World) (p2 : w.heap[p]? = some (.cells #[v0, mv, lv] 53 (0, 0))) (p5 : Sd base w mv side) (hg : base ≤ g) (hbase : base ≤ w.heap.size)
    (hh : w.heap[g]? = some (.cells cur 55 (0, 0))) (hs : cur.size = off + cap) (hc : n ≤ cap) (hcm : cap ≤ maxLen) (hn : ps.length = n) (hnm : n ≤ 1000000) (hp : ∀ x q, ps[x]? = some q → cur[off + x]? = some (.pointer (some ⟨q.1, 0, none⟩))) (hm : ∀ q ∈ ps, w.heap[q.1]? = some (.cells (M.cells q.2) 36 (0, 0)) ∧ M.wf q.2) :
    Calls Try.prog 23 #[.slice (some ⟨g, off, none⟩) n cap, cutsOf p] w fun e w' => (∃ v', e = .returned v' ∧ Way base w' v' ((keep side ps).map (·.1))) ∧ Only base [55] w w' := by
  have IX := hide (index_any (cap := cap) w p2 p5 hh hn hnm hp hm)
  have P2 := hide p2
  have P5 := hide p5
  have HH := hide hh
  have HN := hide hn
  have HP := hide hp
  have HM := hide hm
  have HS := hide hs
  have hcm' : cap ≤ 9223372036854775807 := hcm
  clear p2 p5 hh hn hp hm hs
  go_enter Try.func23, Try.ntmps23
  go_wp2_with fail
  refine (unhide IX).mono ?_
  rintro e w1 ⟨⟨r, rfl, hf⟩, b1⟩
  have o1 : Only base [55] w w1 := Only.of_below b1 hbase
  have hh1 := (b1.block g (blk_lt' (unhide HH))).trans (unhide HH)
  rcases hf with ⟨rfl, hall⟩ | ⟨x, rfl, hxn, hpx, hcx⟩
  · have HK := hide (keep_all hall)
    have W1 := hide (show Way base w1 (.slice (some ⟨g, off, none⟩) n cap) (ps.map (·.1)) from Or.inr ⟨g, off, cap, cur, by rw [List.length_map, unhide HN], hg, hh1, by rw [List.length_map, unhide HN]; exact hc, hcm, unhide HS, fun i b hb => by
      rw [List.getElem?_map] at hb
      cases hq : ps[i]? with
      | none => rw [hq] at hb; simp at hb
      | some q => rw [hq] at hb; simp at hb; subst hb; exact unhide HP i q hq⟩)
    have O1 := hide o1
    clear hall hh1 o1 b1
    go_wp2
    go_ret
    exact ⟨⟨_, rfl, by rw [unhide HK]; exact unhide W1⟩, unhide O1⟩
  · rw [unhide HN] at hxn
    have hkx : keep side (ps.take (x + 1)) = ps.take x := by
      obtain ⟨q, hq⟩ : ∃ q, ps[x]? = some q := ⟨_, List.getElem?_eq_getElem (by rw [unhide HN]; exact hxn)⟩
      rw [List.take_add_one, hq, Option.toList_some, keep_snoc, if_neg (by rw [hcx q hq]; decide), List.append_nil]
      apply keep_all
      intro j q' hj
      have hjx : j < x := by have := (List.getElem?_eq_some_iff.1 hj).1; simp at this; omega
      rw [List.getElem?_take_of_lt hjx] at hj
      exact hpx j q' hjx hj
    have D0 : Dl base w w1 g off (off + cap) side ps (x + 1) cur := ⟨hh1, unhide HS, fun y q hy => by
      rw [hkx] at hy
      have hyx : y < x := by have := (List.getElem?_eq_some_iff.1 hy).1; simp at this; omega
      rw [List.getElem?_take_of_lt hyx] at hy
      exact unhide HP y q hy, fun y q _ hy => unhide HP y q hy, o1⟩
    have HD0 := hide D0
    have HX : Hid ((keep side (ps.take (x + 1))).length = x) := by show _ = _; rw [hkx, List.length_take, unhide HN]; omega
    have hx1 : (x : Int) ≠ -1 := by omega
    have hx2 : ((x : Int) == -1) = false := by simp
    clear hpx hcx hkx D0 hh1 o1 b1 IX
    go_wp2_with fail
    go_loopg [5, 6] (n - (x + 1)) (fun gg iv jv wr => ∃ (i j : Nat) (cur' : Array Value), j + gg = n ∧ j ≤ n ∧ iv = .int .i64 (i : Int) ∧ jv = .int .i64 (j : Int) ∧ i = (keep side (ps.take j)).length ∧ i < n ∧ i < j ∧ Dl base w wr g off (off + cap) side ps j cur')
    case atStart =>
      exact ⟨x, x + 1, cur, by omega, by omega, rfl, by go_num, (unhide HX).symm, by omega, by omega, unhide HD0⟩
    case round =>
      obtain ⟨i, j, cur', hgk, hjn, rfl, rfl, hij, hin, hij2, hdl⟩ := hrel
      have sr : base ≤ wr.heap.size := Nat.le_trans hbase hdl.only.size
      by_cases hlt : j < n
      · obtain ⟨q, hq⟩ : ∃ q, ps[j]? = some q := ⟨_, List.getElem?_eq_getElem (by rw [unhide HN]; exact hlt)⟩
        have hmq := unhide HM q (List.mem_of_getElem? hq)
        have hb := hdl.only.block hmq.1 (by decide)
        have hat := MAt.of_block hb
        have cb : wr.cell? ⟨g, off + j, none⟩ = some (.pointer (some ⟨q.1, 0, none⟩)) := (cell_of_block hdl.blk).trans (hdl.back j q (Nat.le_refl _) hq)
        have C := cuts_any (base := base) (side := side) (mb := q.1) (mo := 0) (f := q.2.f) (t := q.2.t) wr (hdl.only.block (unhide P2) (by decide)) ((unhide P5).only hdl.only) (hat 0 _ rfl) (hat 1 _ rfl) hmq.2.1 hmq.2.2
        by_cases hcut : cutB side q.2.f q.2.t = true
        · have DN := hide (fun (w2 : World) (b2 : Below wr.heap.size wr w2) => (hdl.below b2 sr).lose hq (by simp [passB, hcut]))
          rw [hcut] at C
          have HC := hide C
          have HIJ := hide hij
          have HGK := hide hgk
          clear C hcut hmq hb hat hdl hq hgk hij HD0
          go_wp2_with fail
          refine (unhide HC).mono ?_
          rintro e w2 ⟨rfl, b2⟩
          have DL := hide (unhide DN w2 b2)
          clear b2 DN
          go_wp2
          go_roundg (n - (j + 1))
          case measure => have := unhide HGK; omega
          case rel => exact ⟨i, j + 1, cur', by omega, by omega, rfl, by go_num, by rw [(unhide DL).2]; exact unhide HIJ, by omega, by omega, (unhide DL).1⟩
        · rw [Bool.not_eq_true] at hcut
          have DN := hide (fun (w2 : World) (b2 : Below wr.heap.size wr w2) => (hdl.below b2 sr).keeps hq (by simp [passB, hcut]) hij hij2 (by omega) hg)
          have CI := hide (fun (w2 : World) (b2 : Below wr.heap.size wr w2) => show (∃ u, w2.cell? ⟨g, off + i, none⟩ = some u) ∧ w2.frozen? ⟨g, off + i, none⟩ = false from
            ⟨⟨_, (cell_of_block (hdl.below b2 sr).blk).trans (Array.getElem?_eq_getElem (by rw [hdl.size]; omega))⟩, free_of_block (hdl.below b2 sr).blk⟩)
          rw [hcut] at C
          have HC := hide C
          have HIJ := hide hij
          have HGK := hide hgk
          clear C hcut hmq hb hat hdl hq hgk hij HD0
          go_wp2_with fail
          refine (unhide HC).mono ?_
          rintro e w2 ⟨rfl, b2⟩
          have DL := hide (unhide DN w2 b2)
          obtain ⟨⟨u, ci⟩, fi⟩ := unhide CI w2 b2
          clear b2 DN CI
          go_wp2
          go_roundg (n - (j + 1))
          case measure => have := unhide HGK; omega
          case rel => exact ⟨i + 1, j + 1, _, by omega, by omega, by go_num, by go_num, by rw [(unhide DL).2, List.length_append, ← unhide HIJ]; rfl, by omega, by omega, (unhide DL).1⟩
      · obtain rfl : j = n := by omega
        have et : ps.take j = ps := by rw [← unhide HN, List.take_length]
        obtain ⟨cur2, y1, y2, y3, y4⟩ := setCells_block (List.replicate (j - i) (.pointer none)) (off + i) wr cur' hdl.blk
        have o2 : Only base [55] wr (wr.setCells g (off + i) (List.replicate (j - i) (.pointer none))) := setCells_only hdl.blk hg
        have zc := run_clear wr 0 g (off + i) (j - i) (cap - i) cur' hdl.blk (by rw [hdl.size]; omega)
        have FIN : Hid (Way base (wr.setCells g (off + i) (List.replicate (j - i) (.pointer none))) (.slice (some ⟨g, off, none⟩) i cap) ((keep side ps).map (·.1)) ∧ Only base [55] w (wr.setCells g (off + i) (List.replicate (j - i) (.pointer none)))) := by
          have hij' := hij
          have hfr := hdl.front
          rw [et] at hij' hfr
          refine ⟨Or.inr ⟨g, off, cap, cur2, by rw [List.length_map, ← hij'], hg, y1, by rw [List.length_map, ← hij']; omega, hcm, by rw [y2, hdl.size], fun x b hb => ?_⟩, hdl.only.trans o2⟩
          rw [List.getElem?_map] at hb
          cases hq : (keep side ps)[x]? with
          | none => rw [hq] at hb; simp at hb
          | some q =>
            rw [hq] at hb; simp at hb; subst hb
            have hxi : x < i := by have := (List.getElem?_eq_some_iff.1 hq).1; omega
            rw [y3 _ (by omega)]; exact hfr x q hq
        have z1 : i ≤ cap := by omega
        have z2 : ¬ cap = i := by omega
        have z3 : i ≤ j := by omega
        clear et y1 y2 y3 y4 o2 hdl hij hgk HD0
        go_wp2
        go_ret
        exact ⟨⟨_, rfl, (unhide FIN).1⟩, (unhide FIN).2⟩
end Go.Proofs.Ytnplhoekkoomiaa

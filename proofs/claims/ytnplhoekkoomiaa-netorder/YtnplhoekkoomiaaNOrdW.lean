/- NetOrder: its walk. -/
import Derived.Test.YtnplhoekkoomiaaNOrdA
namespace Go.Proofs.Ytnplhoekkoomiaa
open Go.RowKit Go.Maps

/-- what the first loop holds: s were sent, q wait. -/
structure Od (w wr : World) (p : Nat) (s q : Nat) (lv : Value) (bs : List Nat) : Prop where
  net : Nt w.heap.size wr p bs (run 0 s) [] 0
  own : wr.ownsRow w.heap.size 36 13 lv q (flat (run s (s + q)))
  off : ∀ j, lv.ownBlock = some j → j ∉ bs
  low : Below w.heap.size w wr
theorem Od.slice {w wr : World} {p s q : Nat} {lv : Value} {bs : List Nat} (h : Od w wr p s q lv bs) : ∃ ao cap, lv = .slice ao q cap := by
  rcases h.own.2 with ⟨rfl, h0⟩ | ⟨g, cap, cur, rfl, _⟩
  · rw [h0]; exact ⟨_, _, rfl⟩
  · exact ⟨_, _, rfl⟩
/-- one more waits. -/
theorem Od.more {w wr w2 : World} {p s q : Nat} {lv v2 : Value} {bs : List Nat} {k : Nat} (h : Od w wr p s q lv bs) (hk : s + q = k) (own2 : w2.ownsRow w.heap.size 36 13 v2 (q + 1) (flat (run s (s + q)) ++ (M.cells ⟨0, 0, 1, (k : Int) + 1⟩).toList))
    (grow2 : (wr.alloc (.cells (M.cells ⟨0, 0, 1, (k : Int) + 1⟩) 36)).grownBy w2 lv.ownBlock) (hloc : v2.ownBlock = lv.ownBlock ∨ v2.ownBlock = some (wr.alloc (.cells (M.cells ⟨0, 0, 1, (k : Int) + 1⟩) 36)).heap.size) :
    Od w w2 p s (q + 1) v2 bs ∧ ∃ g cap, v2 = .slice (some ⟨g, 0, none⟩) (q + 1) cap := by
  have bA : Below wr.heap.size wr (wr.alloc (.cells (M.cells ⟨0, 0, 1, (k : Int) + 1⟩) 36)) := (Below.refl _ wr).alloc (Nat.le_refl _) _
  have e : flat (run s (s + q)) ++ (M.cells ⟨0, 0, 1, (k : Int) + 1⟩).toList = flat (run s (s + (q + 1))) := by
    rw [show s + (q + 1) = (s + q) + 1 by omega, run_snoc (show s ≤ s + q by omega), flat_snoc]
    have : nth (s + q + 1) = ⟨0, 0, 1, (k : Int) + 1⟩ := by rw [hk]; simp [nth]
    rw [this]
  refine ⟨⟨(h.net.below bA).grown (h.own.alloc _) grow2 h.off, by rw [← e]; exact own2, fun j hj => ?_, ?_⟩, ?_⟩
  · rcases hloc with h1 | h1
    · exact h.off j (h1 ▸ hj)
    · rw [h1] at hj; cases hj
      intro hm
      have := h.net.lt _ hm
      have := bA.size
      omega
  · exact (h.low.trans (bA.mono h.low.size)).grown grow2 (Nat.le_trans h.low.size bA.size) (fun j hj => (h.own.lt j hj).1)
  · rcases own2.2 with ⟨rfl, h0⟩ | ⟨g, cap, cur, rfl, _⟩
    · omega
    · exact ⟨_, _, rfl⟩
/-- all that wait are sent. -/
theorem Od.sent {w w2 : World} {p s q g cap : Nat} {bs : List Nat} (h : Od w w2 p s q (.slice (some ⟨g, 0, none⟩) q cap) bs) (hs : s + q ≤ 40) :
    Calls Try.prog 10 #[.pointer (some ⟨p, 0, none⟩), .slice (some ⟨g, 0, none⟩) q cap] w2 fun e w' => e = .returned (.tuple #[]) ∧ ∃ bs', Od w w' p (s + q) 0 (.slice none 0 0) bs' := by
  refine (send_any (cap := cap) (n := q) w2 h.net (Row.of_own h.own (by rw [run_len]; omega)) (by rw [run_len]; omega) (run_wf _ _) h.low.size (by rw [run_len]; omega) (by omega)).mono ?_
  rintro e w' ⟨rfl, ⟨bs', n', _⟩, o'⟩
  rw [filter_none, lost_none, run_append (by omega) (by omega)] at n'
  exact ⟨rfl, bs', n', by rw [Nat.add_zero, run_self]; exact World.ownsRow_nil _ _ _ _, fun j hj => by simp [Value.ownBlock] at hj, h.low.trans o'.1⟩

set_option maxRecDepth 20000 in
set_option maxHeartbeats 4000000 in
theorem order_walk (n0 : Int) (ao : Option Addr) (np cap : Nat) (ys : List Int) (W : World) (hn : ys.length = np) (hnp : np ≤ maxLen) (hy : Ints W ao ys) :
    Calls Try.prog 4 #[.int .i64 n0, .slice ao np cap] W fun e w' => e = .returned (.bool true) ∧ Below W.heap.size W w' := by
  obtain ⟨n, hnn⟩ : ∃ n : Nat, n0 % 40 = (n : Int) := ⟨(n0 % 40).toNat, by have := Int.emod_nonneg n0 (show (40 : Int) ≠ 0 by decide); omega⟩
  have hn40 : n < 40 := by have := Int.emod_lt_of_pos n0 (show (0 : Int) < 40 by decide); omega
  have WI := hide (fun w => (show Calls Try.prog 9 #[.int .i64 n0, .int .i64 40] w fun ev w' => ev = .returned (.int .i64 (n : Int)) ∧ w' = w by rw [← hnn]; exact within_any n0 40 w (by decide) (by decide)))
  have HN := hide hn
  have HY := hide hy
  have hnp' : np ≤ 9223372036854775807 := hnp
  clear hn hy hnn
  go_enter Try.func4, Try.ntmps4
  go_wp2_with fail
  refine (known_any W).mono ?_
  rintro e w0 ⟨rfl, b0⟩
  have B0 := hide b0
  have s0 := b0.size
  clear b0
  go_wp2_with fail
  refine (unhide WI w0).mono ?_
  rintro e w ⟨rfl, rfl⟩
  go_wp2_with fail
  refine (new_any w).mono ?_
  rintro e w1 ⟨rfl, n1, b1⟩
  have O0 : Hid (Od w w1 w.heap.size 0 0 (.slice none 0 0) []) := ⟨by rw [run_self]; exact n1, by rw [run_self]; exact World.ownsRow_nil _ _ _ _, fun j hj => by simp [Value.ownBlock] at hj, b1⟩
  clear n1 b1
  go_wp2_with fail
  go_loopg [6, 7, 8] (n + 1) (fun gg lv av iv wr => ∃ (k s q a : Nat) (bs : List Nat), k + gg = n + 1 ∧ k ≤ n ∧ iv = .int .i64 ((k : Int) + 1) ∧ av = .int .i64 (a : Int) ∧ a ≤ k ∧ s + q = k ∧ Od w wr w.heap.size s q lv bs ∧ (k = n → q = 0))
  case atStart => exact ⟨0, 0, 0, 0, [], by omega, by omega, rfl, rfl, by omega, rfl, unhide O0, fun _ => rfl⟩
  case round =>
    obtain ⟨k, s, q, a, bs, hgk, hkn, rfl, rfl, hak, hsq, hod, hend⟩ := hrel
    by_cases hlt : k < n
    · obtain ⟨i0, hi, hz0, hz1, hz2⟩ := info_parts Try.infoM
      have HOD := hide hod
      have HG := hide hgk
      have HK := hide hsq
      have hq40 : q ≤ 40 := by omega
      obtain ⟨lao, lcap, rfl⟩ := hod.slice
      have hbz : w.heap.size ≤ (wr.alloc (.cells (M.cells ⟨0, 0, 1, (k : Int) + 1⟩) 36)).heap.size := Nat.le_trans hod.low.size ((Below.refl wr.heap.size wr).alloc (Nat.le_refl _) _).size
      clear hod hgk hsq hend O0
      go_upto_region 11 with (first | (at_builtin; refine wpList_append_own_at _ rfl _ _ 47 rfl w.heap.size 36 i0 (.agg (M.cells ⟨0, 0, 0, 0⟩)) 13 168 Try.underlying47 hi hz0 hz1 hz2 rfl (by decide) _ q _ rfl ((unhide HOD).own.alloc _) ⟨wr.heap.size, 0, none⟩ 1 1 (M.cells ⟨0, 0, 1, (k : Int) + 1⟩).toList rfl rfl news_at (cells_one _) (by unfold maxLen; omega) (by omega) hbz ?_; intro v2 w2 own2 grow2 _ hloc) | go_in)
      obtain ⟨d2, g, cap2, rfl⟩ := (unhide HOD).more (unhide HK) own2 grow2 hloc
      have SDF := hide (d2.sent (by have := unhide HK; omega))
      have D2 := hide d2
      have CY := hide (fun (y : Int) (hy : ys[a]? = some y) => show ∃ ad, ao = some ad ∧ w2.cell? (ad.add a) = some (.int .i64 y) from by
        obtain ⟨ad, e, c⟩ := unhide HY a y hy
        refine ⟨ad, e, ?_⟩
        rw [((unhide B0).trans (d2.low.mono s0)).cell (blk_lt c)]; exact c)
      clear d2 own2 grow2 hloc HOD hi hz0 hz1 hz2
      by_cases hap : a < np
      · obtain ⟨y, hya⟩ : ∃ y, ys[a]? = some y := ⟨_, List.getElem?_eq_getElem (by rw [unhide HN]; exact hap)⟩
        obtain ⟨ad, rfl, ca⟩ := unhide CY y hya
        obtain ⟨c, hc⟩ : ∃ c : Nat, y % 6 = (c : Int) := ⟨(y % 6).toNat, by have := Int.emod_nonneg y (show (6 : Int) ≠ 0 by decide); omega⟩
        have hc6 : c < 6 := by have := Int.emod_lt_of_pos y (show (0 : Int) < 6 by decide); omega
        have W6 := hide (show Calls Try.prog 9 #[.int .i64 y, .int .i64 6] w2 fun ev w' => ev = .returned (.int .i64 (c : Int)) ∧ w' = w2 by rw [← hc]; exact within_any y 6 w2 (by decide) (by decide))
        clear CY hya hc
        by_cases hgt : c < q + 1
        · have hgt' : (c : Int) < (q : Int) + 1 := by omega
          go_wp2_with fail
          refine (unhide W6).mono ?_
          rintro e w2' ⟨rfl, rfl⟩
          go_wp2_with fail
          refine (unhide SDF).mono ?_
          rintro e w3 ⟨rfl, bs3, d3⟩
          have D3 := hide d3
          clear d3
          go_wp2
          go_roundg (n + 1 - (k + 1))
          case measure => have := unhide HG; omega
          case rel => exact ⟨k + 1, s + (q + 1), 0, a + 1, bs3, by omega, by omega, by go_num, by go_num, by omega, by have := unhide HK; omega, unhide D3, fun _ => rfl⟩
        · have hgt' : ¬ (c : Int) < (q : Int) + 1 := by omega
          by_cases hlast : k + 1 = n
          · have hl1 : (k : Int) + 1 = (n : Int) := by omega
            go_wp2_with fail
            refine (unhide W6).mono ?_
            rintro e w2' ⟨rfl, rfl⟩
            go_wp2_with fail
            refine (unhide SDF).mono ?_
            rintro e w3 ⟨rfl, bs3, d3⟩
            have D3 := hide d3
            clear d3
            go_wp2
            go_roundg (n + 1 - (k + 1))
            case measure => have := unhide HG; omega
            case rel => exact ⟨k + 1, s + (q + 1), 0, a + 1, bs3, by omega, by omega, by go_num, by go_num, by omega, by have := unhide HK; omega, unhide D3, fun _ => rfl⟩
          · have hl1 : ¬ ((k : Int) + 1 = (n : Int)) := by omega
            have hl2 : ((k : Int) + 1 == (n : Int)) = false := by simpa using hl1
            go_wp2_with fail
            refine (unhide W6).mono ?_
            rintro e w2' ⟨rfl, rfl⟩
            go_wp2
            go_roundg (n + 1 - (k + 1))
            case measure => have := unhide HG; omega
            case rel => exact ⟨k + 1, s, q + 1, a, bs, by omega, by omega, by go_num, by go_num, by omega, by have := unhide HK; omega, unhide D2, fun h => absurd h (by omega)⟩
      · have hap' : ¬ ((a : Int) < (np : Int)) := by omega
        by_cases hlast : k + 1 = n
        · have hl1 : (k : Int) + 1 = (n : Int) := by omega
          go_wp2_with fail
          refine (unhide SDF).mono ?_
          rintro e w3 ⟨rfl, bs3, d3⟩
          have D3 := hide d3
          clear d3
          go_wp2
          go_roundg (n + 1 - (k + 1))
          case measure => have := unhide HG; omega
          case rel => exact ⟨k + 1, s + (q + 1), 0, a + 1, bs3, by omega, by omega, by go_num, by go_num, by omega, by have := unhide HK; omega, unhide D3, fun _ => rfl⟩
        · have hl1 : ¬ ((k : Int) + 1 = (n : Int)) := by omega
          have hl2 : ((k : Int) + 1 == (n : Int)) = false := by simpa using hl1
          go_wp2
          go_roundg (n + 1 - (k + 1))
          case measure => have := unhide HG; omega
          case rel => exact ⟨k + 1, s, q + 1, a, bs, by omega, by omega, by go_num, by go_num, by omega, by have := unhide HK; omega, unhide D2, fun h => absurd h (by omega)⟩
    · obtain rfl : k = n := by omega
      obtain rfl : q = 0 := hend rfl
      obtain rfl : s = k := by omega
      have N1 := hide hod.net
      have L1 := hide hod.low
      have LEN := hide (len_any wr hod.net)
      rw [run_len] at LEN
      clear hod hgk hsq hend O0
      go_wp2_with fail
      refine (unhide LEN).mono ?_
      rintro e w4 ⟨rfl, rfl⟩
      go_wp2_with fail
      go_loopg [9, 10, 11] (s + 1) (fun gg iv _ _ wr => ∃ (j : Nat) (bs : List Nat), j + gg = s + 1 ∧ j ≤ s ∧ iv = .int .i64 ((j : Int) + 1) ∧ Nt w.heap.size wr w.heap.size bs (run j s) [] 0 ∧ Below w.heap.size w wr)
      case atStart => exact ⟨0, bs, by omega, by omega, rfl, unhide N1, unhide L1⟩
      case round =>
        obtain ⟨j, bs2, hgj, hjs, rfl, hnt, hlow⟩ := hrel
        have sr := hlow.size
        by_cases hj : j < s
        · have DV := hide (deliver_ok (kk := 0) (at' := 0) (m := ⟨0, 0, 1, (j : Int) + 1⟩) wr hnt (by rw [run_len]; omega) (by simp) (by rw [run_get (by omega)]; simp [nth]) sr)
          have HG2 := hide hgj
          have HL2 := hide hlow
          clear hnt hgj hlow N1 L1
          go_wp2_with fail
          refine (unhide DV).mono ?_
          simp only [M.cells]
          rintro e w5 ⟨rfl, n5, o5⟩
          obtain ⟨W5, hW5⟩ : ∃ W5, w5.alloc (.cells (M.mk 0 0 1 ((j : Int) + 1)).cells 36) = W5 := ⟨_, rfl⟩
          have b5 : Below w5.heap.size w5 W5 := by rw [← hW5]; exact (Below.refl _ w5).alloc (Nat.le_refl _) _
          have x5 : W5.heap[w5.heap.size]? = some (.cells (M.mk 0 0 1 ((j : Int) + 1)).cells 36 (0, 0)) := by rw [← hW5]; exact heap_alloc_new _ _
          have d5 : W5.cell? ⟨w5.heap.size, 5, none⟩ = some (.int .i64 ((j : Int) + 1)) := (cell_of_block x5).trans rfl
          rw [run_erase hj] at n5
          have N5 := hide (n5.below b5)
          have L5 := hide (((unhide HL2).trans o5.1).trans (b5.mono (Nat.le_trans sr o5.size)))
          have HW5 := hide hW5
          clear n5 o5 b5 x5 hW5 DV
          go_upto_region 21 with fail
          rw [show w5.alloc (.cells #[.int .i64 0, .int .i64 0, .int .i64 0, .int .i64 1, .int .i64 0, .int .i64 ((j : Int) + 1), .int .i64 0, .int .i64 0, .bool false, .slice none 0 0, .slice none 0 0, .slice none 0 0, .slice none 0 0] 36) = W5 from unhide HW5]
          clear HW5
          go_wp2
          go_roundg (s + 1 - (j + 1))
          case measure => have := unhide HG2; omega
          case rel => exact ⟨j + 1, _, by omega, by omega, by go_num, unhide N5, unhide L5⟩
        · obtain rfl : j = s := by omega
          rw [run_self] at hnt
          have DV := hide (deliver_none 0 wr hnt)
          have N6 := hide hnt
          have L6 := hide hlow
          clear hnt hgj hlow N1 L1
          go_wp2_with fail
          refine (unhide DV).mono ?_
          simp only [M.cells]
          rintro e w6 ⟨rfl, b6⟩
          have b7 := b6.trans (((Below.refl w6.heap.size w6).alloc (Nat.le_refl _) (.cells #[.int .i64 0, .int .i64 0, .int .i64 0, .int .i64 0, .int .i64 0, .int .i64 (0), .int .i64 0, .int .i64 0, .bool false, .slice none 0 0, .slice none 0 0, .slice none 0 0, .slice none 0 0] 36)).mono b6.size)
          have N7 := hide ((unhide N6).below b7)
          have L7 := hide ((unhide L6).trans (b7.mono sr))
          clear b6 b7
          go_wp2_with fail
          refine (lost_any _ (unhide N7)).mono ?_
          rintro e w7 ⟨rfl, rfl⟩
          go_wp2_with fail
          refine (drop_none 1 _ (unhide N7)).mono ?_
          rintro e w8 ⟨rfl, rfl⟩
          go_wp2_with fail
          refine (double_none 1 _ (unhide N7)).mono ?_
          rintro e w9 ⟨rfl, rfl⟩
          go_wp2
          go_ret
          exact ⟨rfl, (unhide B0).trans ((unhide L7).mono s0)⟩
end Go.Proofs.Ytnplhoekkoomiaa

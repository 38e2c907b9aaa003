/- ConfChecks: the walk. -/
import Derived.Test.YthemdkfmlkaifaaKCheck
import Derived.Test.YthemdkfmlkaifaaKKnown
import Derived.Test.YthemdkfmlkaifaaKWithin
namespace Go.Proofs.Ythemdkfmlkaifaa
open Go.RowKit

theorem mod_nat (x : Int) (m : Nat) (hm : 0 < m) : ∃ g : Nat, x % (m : Int) = (g : Int) ∧ g < m := by
  have h1 := Int.emod_nonneg x (show (m : Int) ≠ 0 by omega)
  have h2 := Int.emod_lt_of_pos x (show (0 : Int) < m by omega)
  exact ⟨(x % (m : Int)).toNat, by omega, by omega⟩
theorem wrong_bad {l : List Int} (hu : ¬ Up l) (b : Bool) : wrongOf b l = if 7 < l.length then 4 else 1 := by
  have hl : l ≠ [] := fun e => by subst e; exact hu Up.nil
  unfold wrongOf
  rw [if_neg (fun h => hl h.2)]
  split
  · rfl
  · rw [if_neg (fun h => hu ((climb_up l).1 h))]
theorem check_bad {l : List Int} (hu : ¬ Up l) : checkOf l [0] = (if 7 < l.length then 4 else 1) ∧ checkOf [] l = if 7 < l.length then 4 else 1 := by
  unfold checkOf
  rw [wrong_bad hu false]
  refine ⟨?_, ?_⟩
  · rw [if_neg (by split <;> decide)]
  · rw [show wrongOf false [] = 0 from rfl, if_pos rfl, wrong_bad hu true]
theorem bad_last {ps : List Int} {x : Int} (h : x ∈ ps) : ¬ Up (ps ++ [x]) := fun hu => by
  have := (List.pairwise_append.1 hu.1).2.2 x h x (by simp)
  omega
theorem bad_high {qs : List Int} {x : Int} (h : 9 ≤ x) : ¬ Up (qs ++ [x]) := fun hu => by
  have := hu.2 x (by simp)
  omega
theorem bad_low {qs : List Int} {x : Int} (h : x < 0) : ¬ Up (x :: qs) := fun hu => by
  have := hu.2 x (by simp)
  omega
theorem Ir.front {base : Nat} {w : World} {g n cap : Nat} {xs : List Int} (h : Ir base w (.slice (some ⟨g, 0, none⟩) n cap) xs) (k : Nat) (hk : k ≤ xs.length) : Ir base w (.slice (some ⟨g, 0, none⟩) k cap) (xs.take k) := by
  have e1 : (xs.take k).length = k := by rw [List.length_take]; omega
  rcases h.2 with ⟨e, _⟩ | ⟨g', cap', cur, e, hb, hh, hc, hm, hs, ht⟩
  · cases e
  · cases e
    unfold Ir
    rw [e1]
    refine ⟨by simp [i64s]; omega, Or.inr ⟨g, cap, cur, rfl, hb, hh, by omega, hm, hs, ?_⟩⟩
    have := congrArg (List.take k) ht
    rw [List.take_take] at this
    rw [show min k (xs.length * 1) = k * 1 by omega] at this
    rw [this, i64s, i64s, List.map_take]
theorem Ir.some {base : Nat} {w : World} {v : Value} {xs : List Int} (h : Ir base w v xs) (hx : xs ≠ []) : ∃ g cap cur, v = .slice (some ⟨g, 0, none⟩) xs.length cap ∧ base ≤ g ∧ w.heap[g]? = Option.some (.cells cur 3 (0, 0)) ∧ cur.size = cap ∧ xs.length ≤ cap ∧ cap ≤ maxLen ∧ cur.toList.take xs.length = i64s xs := by
  rcases h.2 with ⟨_, h0⟩ | ⟨g, cap, cur, rfl, hb, hh, hc, hm, hs, ht⟩
  · exact absurd (List.eq_nil_of_length_eq_zero h0) hx
  · exact ⟨g, cap, cur, rfl, hb, hh, by simpa using hs, hc, hm, by simpa using ht⟩
theorem cells_of {w : World} {g : Nat} {cur : Array Value} {t : TypeId} {fr : Nat × Nat} {xs : List Int} (hh : w.heap[g]? = some (.cells cur t fr)) (ht : cur.toList.take xs.length = i64s xs) : IntsR w (some ⟨g, 0, none⟩) xs := fun i hi => by
  refine ⟨_, rfl, ?_⟩
  rw [Addr.add_lit, Nat.zero_add]
  have e : cur.toList[i]? = (i64s xs)[i]? := by rw [← ht, List.getElem?_take_of_lt hi]
  rw [i64s, List.getElem?_map, List.getElem?_eq_getElem hi] at e
  simp only [World.cell?, hh]
  rw [List.getD_eq_getElem?_getD, List.getElem?_eq_getElem hi]
  simpa using e
theorem set_first {w : World} {g : Nat} {cur : Array Value} {t : TypeId} {fr : Nat × Nat} {x y : Int} {xs : List Int} (hh : w.heap[g]? = some (.cells cur t fr)) (ht : cur.toList.take (x :: xs).length = i64s (x :: xs)) :
    IntsR (w.setCell ⟨g, 0, none⟩ (.int .i64 y)) (some ⟨g, 0, none⟩) (y :: xs) := by
  have h2 : (w.setCell ⟨g, 0, none⟩ (.int .i64 y)).heap[g]? = some (.cells (cur.setIfInBounds 0 (.int .i64 y)) t fr) := by
    simp [World.setCell, Array.getElem?_modify, hh]
  refine cells_of h2 ?_
  have e : cur.toList ≠ [] := by
    intro e
    rw [e] at ht; simp [i64s] at ht
  obtain ⟨z, zs, hz⟩ := List.exists_cons_of_ne_nil e
  rw [Array.toList_setIfInBounds, hz]
  rw [hz] at ht
  simp [i64s] at ht ⊢
  exact ht.2
theorem empty_ir (base : Nat) (w : World) (h : base ≤ w.heap.size) : Ir base (w.alloc (.cells #[] 3)) (.slice (some ⟨w.heap.size, 0, none⟩) 0 0) [] :=
  World.ownsRow_made w #[] 0 h (by decide) rfl

theorem field_new (x : Value) (an : Option Addr) (n c : Nat) (w : World) : (Instr.field 24 (.agg #[x, .slice an n c]) 1).run Try.prog w = .ok (.slice an n c) w := by kernel_rfl

set_option maxRecDepth 20000 in
set_option maxHeartbeats 4000000 in
theorem checks_walk (bits how by' : Int) (old : Bool) (w : World) : Calls Try.prog 7 #[.int .i64 bits, .int .i64 how, .int .i64 by', .bool old] w fun e w' => e = .returned (.bool true) ∧ Below w.heap.size w w' := by
  obtain ⟨q, hq, hq5⟩ := mod_nat by' 50 (by decide)
  obtain ⟨g, hg, hg5⟩ := mod_nat how 5 (by decide)
  have WB := hide (fun w => show Calls Try.prog 31 #[.int .i64 by', .int .i64 50] w fun ev w' => ev = .returned (.int .i64 (q : Int)) ∧ w' = w by rw [← hq]; exact within_any by' 50 w (by decide) (by decide))
  have WG := hide (fun w => show Calls Try.prog 31 #[.int .i64 how, .int .i64 5] w fun ev w' => ev = .returned (.int .i64 (g : Int)) ∧ w' = w by rw [← hg]; exact within_any how 5 w (by decide) (by decide))
  have KN := hide (known_any w)
  clear hq hg
  go_enter Try.func7, Try.ntmps7
  go_wp2_with fail
  refine (unhide KN).mono ?_
  rintro e w1 ⟨rfl, b1⟩
  have B1 := hide b1
  clear b1 KN
  go_wp2_with fail
  refine (unhide WB _).mono ?_
  rintro e w1 ⟨rfl, rfl⟩
  obtain ⟨W1, hW1⟩ : ∃ W1, w1.alloc (.cells #[] 3) = W1 := ⟨_, rfl⟩
  have bW1 : Below w1.heap.size w1 W1 := by rw [← hW1]; exact (Below.refl _ w1).alloc (Nat.le_refl _) _
  have oW1 : Ir w.heap.size W1 (.slice (some ⟨w1.heap.size, 0, none⟩) 0 0) [] := by rw [← hW1]; exact empty_ir _ _ (unhide B1).size
  have PL := hide (plain_any bits W1)
  have HW1 := hide hW1
  have BW1 := hide ((unhide B1).trans (bW1.mono (unhide B1).size))
  have OW1 := hide oW1
  clear hW1 bW1 oW1 WB
  go_wp2_with fail
  rw [unhide HW1]
  refine (unhide PL).mono ?_
  rintro e w2 ⟨an, m, c, rfl, hn, hnc, fr, b2⟩
  obtain ⟨ps, hps⟩ : ∃ ps, plainOf (bitOf bits) = ps := ⟨_, rfl⟩
  have hup : Up ps := by rw [← hps]; exact plain_Up _
  have hm7 : m ≤ 7 := by rw [← hn]; exact plain_len _
  have hne : ps ≠ [] := by rw [← hps]; exact plain_ne _
  rw [hps] at hn fr
  have HN := hide hn
  have FR := hide fr
  have NE := hide hne
  have B2 := hide ((unhide BW1).trans (b2.mono (unhide BW1).size))
  have O2 := hide ((unhide OW1).below b2)
  have sz2 := (unhide B2).size
  have fn := field_new (.slice none 0 0) an m c
  clear hn fr b2 hps hup hne PL HW1 OW1
  go_wp2_with (at_builtin; refine wpList_app rfl (.tmp 17) (.tmp 20) rfl w.heap.size _ [] rfl (unhide O2) an m c ps rfl (unhide HN) (unhide FR).1 (by simp; omega) sz2 ?_)
  intro v3 w3 own3 g3
  have B3 := hide ((unhide O2).grown g3 (unhide B2) sz2)
  obtain ⟨p, cap, cur, rfl, hp, hh, hcs, hcap, hmx, ht⟩ := own3.some (unhide NE)
  rw [unhide HN] at hcap ht own3
  rw [unhide HN]
  have OW := hide own3
  have HP := hide hp
  have HH := hide hh
  have HT := hide ht
  have HCAP := hide hcap
  have HMX := hide hmx
  have sz3 := (unhide B3).size
  clear own3 g3 hp hh ht hcs hcap hmx O2 B2 FR BW1 B1
  go_wp2_with fail
  refine (unhide WG _).mono ?_
  rintro e w3 ⟨rfl, rfl⟩
  clear WG
  have hcases : g = 0 ∨ g = 1 ∨ g = 2 ∨ g = 3 ∨ g = 4 := by omega
  obtain ⟨k, rfl⟩ : ∃ k, m = k + 1 := by
    cases m with
    | zero => exact absurd (List.eq_nil_of_length_eq_zero (unhide HN)) (unhide NE)
    | succ k => exact ⟨k, rfl⟩
  rcases hcases with rfl | rfl | rfl | rfl | rfl
  · obtain ⟨x, hxk⟩ : ∃ x, ps.getD k 0 = x := ⟨_, rfl⟩
    have cx : w3.cell? ⟨p, k, none⟩ = some (.int .i64 x) := by
      obtain ⟨a, e, hc⟩ := cells_of (xs := ps) (unhide HH) (by rw [unhide HN]; exact unhide HT) k (by rw [unhide HN]; omega)
      cases e
      rw [Addr.add_lit, Nat.zero_add, hxk] at hc; exact hc
    have hmem : x ∈ ps := by rw [← hxk]; exact mem_getD (by rw [unhide HN]; omega)
    have CB0 := hide (check_bad (bad_last hmem))
    clear hxk hmem
    go_wp2_with (at_builtin; refine wpList_app rfl (.tmp 26) (.tmp 33) rfl w.heap.size _ ps rfl ((unhide OW).below ((Below.refl _ _).alloc (Nat.le_refl _) _)) (some ⟨w3.heap.size, 0, none⟩) 1 1 [x] rfl rfl (one_int _ _) (by rw [unhide HN]; omega) (by simp; omega) ?_)
    intro v4 w4 own4 g4
    have B4 := hide (((unhide OW).below ((Below.refl _ _).alloc (Nat.le_refl _) (.cells #[.int .i64 x] 3))).grown g4 ((unhide B3).alloc sz3 _) (by simp; omega))
    obtain ⟨a4, c4, rfl, f4, l4, _⟩ := own4.slice
    have hl4 : (ps ++ [x]).length = k + 2 := by rw [List.length_append, unhide HN]; rfl
    rw [hl4] at l4 CB0
    rw [hl4]
    have F4 := hide f4
    have HL4 := hide hl4
    clear own4 g4 f4 hl4 cx l4
    by_cases h7 : 7 < k + 2
    · have h7' : (7 : Int) < (k : Int) + 2 := by omega
      have CB := unhide CB0
      rw [if_pos h7] at CB
      have CB := hide CB
      clear h7 CB0
      cases old
      · have CH := hide (check_any none a4 0 (k + 2) 0 c4 [] (ps ++ [x]) rfl (unhide HL4) (by decide) (by omega) w4 (IntsR.nil _ _) ((unhide F4).1))
        rw [(unhide CB).2] at CH
        go_wp2_with fail
        refine (unhide CH).mono ?_
        rintro e w6 ⟨rfl, b6⟩
        have B6 := hide ((unhide B4).trans (b6.mono (unhide B4).size))
        clear b6 CH
        go_wp2
        go_ret
        exact ⟨rfl, unhide B6⟩
      · obtain ⟨W5, hW5⟩ : ∃ W5, w4.alloc (.cells #[.int .i64 0] 3) = W5 := ⟨_, rfl⟩
        have b5 : Below w4.heap.size w4 W5 := by rw [← hW5]; exact (Below.refl _ w4).alloc (Nat.le_refl _) _
        have i5 : IntsR W5 (some ⟨w4.heap.size, 0, none⟩) [0] := by rw [← hW5]; exact one_int w4 0
        have s5 : W5.heap.size = w4.heap.size + 1 := by rw [← hW5]; simp
        obtain ⟨W6, hW6, b6, x6, _⟩ := boxed W5 (.slice a4 (k + 2) c4) (.slice (some ⟨w4.heap.size, 0, none⟩) 1 1)
        have CH := hide (check_any a4 (some ⟨w4.heap.size, 0, none⟩) (k + 2) 1 c4 1 (ps ++ [x]) [0] (unhide HL4) rfl (by omega) (by decide) W6 ((((unhide F4).1).below b5).below b6) (i5.below b6))
        rw [(unhide CB).1] at CH
        have HW6 : Hid ((w4.alloc (.cells #[.int .i64 0] 3)).alloc (.cells #[.slice a4 (k + 2) c4, .slice (some ⟨w4.heap.size, 0, none⟩) 1 1] 24) = W6) := by rw [hW5]; exact hW6
        have B6 := hide ((unhide B4).trans ((b5.trans (b6.mono b5.size)).mono (unhide B4).size))
        rw [s5] at x6
        obtain ⟨c0, c1⟩ := two_cells x6
        clear hW5 b5 i5 s5 hW6 b6 x6
        go_upto_region 21 with fail
        rw [unhide HW6]
        clear HW6
        go_wp2_with fail
        refine (unhide CH).mono ?_
        rintro e w7 ⟨rfl, b7⟩
        have B7 := hide ((unhide B6).trans (b7.mono (unhide B6).size))
        clear b7 CH
        go_wp2
        go_ret
        exact ⟨rfl, unhide B7⟩
    · have h7' : ¬ (7 : Int) < (k : Int) + 2 := by omega
      have CB := unhide CB0
      rw [if_neg h7] at CB
      have CB := hide CB
      clear h7 CB0
      cases old
      · have CH := hide (check_any none a4 0 (k + 2) 0 c4 [] (ps ++ [x]) rfl (unhide HL4) (by decide) (by omega) w4 (IntsR.nil _ _) ((unhide F4).1))
        rw [(unhide CB).2] at CH
        go_wp2_with fail
        refine (unhide CH).mono ?_
        rintro e w6 ⟨rfl, b6⟩
        have B6 := hide ((unhide B4).trans (b6.mono (unhide B4).size))
        clear b6 CH
        go_wp2
        go_ret
        exact ⟨rfl, unhide B6⟩
      · obtain ⟨W5, hW5⟩ : ∃ W5, w4.alloc (.cells #[.int .i64 0] 3) = W5 := ⟨_, rfl⟩
        have b5 : Below w4.heap.size w4 W5 := by rw [← hW5]; exact (Below.refl _ w4).alloc (Nat.le_refl _) _
        have i5 : IntsR W5 (some ⟨w4.heap.size, 0, none⟩) [0] := by rw [← hW5]; exact one_int w4 0
        have s5 : W5.heap.size = w4.heap.size + 1 := by rw [← hW5]; simp
        obtain ⟨W6, hW6, b6, x6, _⟩ := boxed W5 (.slice a4 (k + 2) c4) (.slice (some ⟨w4.heap.size, 0, none⟩) 1 1)
        have CH := hide (check_any a4 (some ⟨w4.heap.size, 0, none⟩) (k + 2) 1 c4 1 (ps ++ [x]) [0] (unhide HL4) rfl (by omega) (by decide) W6 ((((unhide F4).1).below b5).below b6) (i5.below b6))
        rw [(unhide CB).1] at CH
        have HW6 : Hid ((w4.alloc (.cells #[.int .i64 0] 3)).alloc (.cells #[.slice a4 (k + 2) c4, .slice (some ⟨w4.heap.size, 0, none⟩) 1 1] 24) = W6) := by rw [hW5]; exact hW6
        have B6 := hide ((unhide B4).trans ((b5.trans (b6.mono b5.size)).mono (unhide B4).size))
        rw [s5] at x6
        obtain ⟨c0, c1⟩ := two_cells x6
        clear hW5 b5 i5 s5 hW6 b6 x6
        go_upto_region 21 with fail
        rw [unhide HW6]
        clear HW6
        go_wp2_with fail
        refine (unhide CH).mono ?_
        rintro e w7 ⟨rfl, b7⟩
        have B7 := hide ((unhide B6).trans (b7.mono (unhide B6).size))
        clear b7 CH
        go_wp2
        go_ret
        exact ⟨rfl, unhide B7⟩
  · have OF := hide ((unhide OW).front k (by rw [unhide HN]; omega))
    have tl : (ps.take k).length = k := by rw [List.length_take, unhide HN]; omega
    have TL := hide tl
    have wq : (8 : Int) + (1 + (q : Int)) = (q : Int) + 9 := by omega
    have CB0 := hide (check_bad (bad_high (qs := ps.take k) (x := (q : Int) + 9) (by omega)))
    have kc : k ≤ cap := by have := unhide HCAP; omega
    clear tl
    go_wp2_with (at_builtin; refine wpList_app rfl (.tmp 41) (.tmp 44) rfl w.heap.size _ (ps.take k) rfl ((unhide OF).below ((Below.refl _ _).alloc (Nat.le_refl _) _)) (some ⟨w3.heap.size, 0, none⟩) 1 1 [(q : Int) + 9] rfl rfl (one_int _ _) (by rw [unhide TL]; omega) (by simp; omega) ?_)
    intro v4 w4 own4 g4
    have B4 := hide (((unhide OF).below ((Below.refl _ _).alloc (Nat.le_refl _) (.cells #[.int .i64 ((q : Int) + 9)] 3))).grown g4 ((unhide B3).alloc sz3 _) (by simp; omega))
    obtain ⟨a4, c4, rfl, f4, l4, _⟩ := own4.slice
    have hl4 : (ps.take k ++ [(q : Int) + 9]).length = k + 1 := by rw [List.length_append, unhide TL]; rfl
    rw [hl4] at l4 CB0
    rw [hl4]
    have F4 := hide f4
    have HL4 := hide hl4
    have CB := unhide CB0
    rw [if_neg (by omega)] at CB
    have CB := hide CB
    have h7' : ¬ (7 : Int) < (k : Int) + 1 := by omega
    clear own4 g4 f4 hl4 l4 CB0 wq
    cases old
    · have CH := hide (check_any none a4 0 (k + 1) 0 c4 [] (ps.take k ++ [(q : Int) + 9]) rfl (unhide HL4) (by decide) (by omega) w4 (IntsR.nil _ _) ((unhide F4).1))
      rw [(unhide CB).2] at CH
      go_wp2_with fail
      refine (unhide CH).mono ?_
      rintro e w6 ⟨rfl, b6⟩
      have B6 := hide ((unhide B4).trans (b6.mono (unhide B4).size))
      clear b6 CH
      go_wp2
      go_ret
      exact ⟨rfl, unhide B6⟩
    · obtain ⟨W5, hW5⟩ : ∃ W5, w4.alloc (.cells #[.int .i64 0] 3) = W5 := ⟨_, rfl⟩
      have b5 : Below w4.heap.size w4 W5 := by rw [← hW5]; exact (Below.refl _ w4).alloc (Nat.le_refl _) _
      have i5 : IntsR W5 (some ⟨w4.heap.size, 0, none⟩) [0] := by rw [← hW5]; exact one_int w4 0
      have s5 : W5.heap.size = w4.heap.size + 1 := by rw [← hW5]; simp
      obtain ⟨W6, hW6, b6, x6, _⟩ := boxed W5 (.slice a4 (k + 1) c4) (.slice (some ⟨w4.heap.size, 0, none⟩) 1 1)
      have CH := hide (check_any a4 (some ⟨w4.heap.size, 0, none⟩) (k + 1) 1 c4 1 (ps.take k ++ [(q : Int) + 9]) [0] (unhide HL4) rfl (by omega) (by decide) W6 ((((unhide F4).1).below b5).below b6) (i5.below b6))
      rw [(unhide CB).1] at CH
      have HW6 : Hid ((w4.alloc (.cells #[.int .i64 0] 3)).alloc (.cells #[.slice a4 (k + 1) c4, .slice (some ⟨w4.heap.size, 0, none⟩) 1 1] 24) = W6) := by rw [hW5]; exact hW6
      have B6 := hide ((unhide B4).trans ((b5.trans (b6.mono b5.size)).mono (unhide B4).size))
      rw [s5] at x6
      obtain ⟨c0, c1⟩ := two_cells x6
      clear hW5 b5 i5 s5 hW6 b6 x6
      go_upto_region 21 with fail
      rw [unhide HW6]
      clear HW6
      go_wp2_with fail
      refine (unhide CH).mono ?_
      rintro e w7 ⟨rfl, b7⟩
      have B7 := hide ((unhide B6).trans (b7.mono (unhide B6).size))
      clear b7 CH
      go_wp2
      go_ret
      exact ⟨rfl, unhide B7⟩
  · obtain ⟨x, xs, hxs⟩ := List.exists_cons_of_ne_nil (unhide NE)
    have hxl : (x :: xs).length = k + 1 := by rw [← hxs]; exact unhide HN
    have cx : w3.cell? ⟨p, 0, none⟩ = some (.int .i64 x) := by
      obtain ⟨a, e, hc⟩ := cells_of (xs := ps) (unhide HH) (by rw [unhide HN]; exact unhide HT) 0 (by rw [unhide HN]; omega)
      cases e
      rw [Addr.add_lit, hxs] at hc; exact hc
    have fx : w3.frozen? ⟨p, 0, none⟩ = false := by simp [World.frozen?, unhide HH]
    have CB0 := hide (check_bad (bad_low (qs := xs) (x := -(1 + (q : Int))) (by omega)))
    obtain ⟨w4, hw4⟩ : ∃ w4, w3.setCell ⟨p, 0, none⟩ (.int .i64 (-(1 + (q : Int)))) = w4 := ⟨_, rfl⟩
    have i4 : IntsR w4 (some ⟨p, 0, none⟩) ((-(1 + (q : Int))) :: xs) := by
      rw [← hw4]
      refine set_first (x := x) (unhide HH) ?_
      rw [hxl, ← hxs]; exact unhide HT
    have b4 : Below w.heap.size w w4 := by rw [← hw4]; exact (unhide B3).setCell (p := ⟨p, 0, none⟩) (unhide HP) _
    have B4 := hide b4
    have I4 := hide i4
    have HW4 := hide hw4
    have hl4 : ((-(1 + (q : Int))) :: xs).length = k + 1 := hxl
    have HL4 := hide hl4
    rw [hl4] at CB0
    have CB := unhide CB0
    rw [if_neg (by omega)] at CB
    have CB := hide CB
    have h7' : ¬ (7 : Int) < (k : Int) + 1 := by omega
    clear hxs hxl hw4 i4 b4 hl4 CB0
    go_upto_region 17 with fail
    rw [unhide HW4]
    clear HW4 cx fx
    cases old
    · have CH := hide (check_any none (some ⟨p, 0, none⟩) 0 (k + 1) 0 cap [] ((-(1 + (q : Int))) :: xs) rfl (unhide HL4) (by decide) (by omega) w4 (IntsR.nil _ _) (unhide I4))
      rw [(unhide CB).2] at CH
      go_wp2_with fail
      refine (unhide CH).mono ?_
      rintro e w6 ⟨rfl, b6⟩
      have B6 := hide ((unhide B4).trans (b6.mono (unhide B4).size))
      clear b6 CH
      go_wp2
      go_ret
      exact ⟨rfl, unhide B6⟩
    · obtain ⟨W5, hW5⟩ : ∃ W5, w4.alloc (.cells #[.int .i64 0] 3) = W5 := ⟨_, rfl⟩
      have b5 : Below w4.heap.size w4 W5 := by rw [← hW5]; exact (Below.refl _ w4).alloc (Nat.le_refl _) _
      have i5 : IntsR W5 (some ⟨w4.heap.size, 0, none⟩) [0] := by rw [← hW5]; exact one_int w4 0
      have s5 : W5.heap.size = w4.heap.size + 1 := by rw [← hW5]; simp
      obtain ⟨W6, hW6, b6, x6, _⟩ := boxed W5 (.slice (some ⟨p, 0, none⟩) (k + 1) cap) (.slice (some ⟨w4.heap.size, 0, none⟩) 1 1)
      have CH := hide (check_any (some ⟨p, 0, none⟩) (some ⟨w4.heap.size, 0, none⟩) (k + 1) 1 cap 1 ((-(1 + (q : Int))) :: xs) [0] (unhide HL4) rfl (by omega) (by decide) W6 (((unhide I4).below b5).below b6) (i5.below b6))
      rw [(unhide CB).1] at CH
      have HW6 : Hid ((w4.alloc (.cells #[.int .i64 0] 3)).alloc (.cells #[.slice (some ⟨p, 0, none⟩) (k + 1) cap, .slice (some ⟨w4.heap.size, 0, none⟩) 1 1] 24) = W6) := by rw [hW5]; exact hW6
      have B6 := hide ((unhide B4).trans ((b5.trans (b6.mono b5.size)).mono (unhide B4).size))
      rw [s5] at x6
      obtain ⟨c0, c1⟩ := two_cells x6
      clear hW5 b5 i5 s5 hW6 b6 x6
      go_upto_region 21 with fail
      rw [unhide HW6]
      clear HW6
      go_wp2_with fail
      refine (unhide CH).mono ?_
      rintro e w7 ⟨rfl, b7⟩
      have B7 := hide ((unhide B6).trans (b7.mono (unhide B6).size))
      clear b7 CH
      go_wp2
      go_ret
      exact ⟨rfl, unhide B7⟩
  · obtain ⟨w4, hw4⟩ : ∃ w4, w3.alloc (.cells #[.int .i64 0, .int .i64 1, .int .i64 2, .int .i64 3, .int .i64 4, .int .i64 5, .int .i64 6, .int .i64 7] 3) = w4 := ⟨_, rfl⟩
    have i4 : IntsR w4 (some ⟨w3.heap.size, 0, none⟩) [0, 1, 2, 3, 4, 5, 6, 7] := by rw [← hw4]; exact made_ints w3 _ _ rfl
    have b4 : Below w3.heap.size w3 w4 := by rw [← hw4]; exact (Below.refl _ w3).alloc (Nat.le_refl _) _
    have B4 := hide ((unhide B3).trans (b4.mono sz3))
    have I4 := hide i4
    have HW4 := hide hw4
    have CB : Hid (checkOf [0, 1, 2, 3, 4, 5, 6, 7] [0] = 4 ∧ checkOf [] [0, 1, 2, 3, 4, 5, 6, 7] = 4) := ⟨rfl, rfl⟩
    clear hw4 i4 b4
    go_upto_region 17 with fail
    rw [unhide HW4]
    clear HW4
    cases old
    · have CH := hide (check_any none (some ⟨w3.heap.size, 0, none⟩) 0 (8) 0 8 [] ([0, 1, 2, 3, 4, 5, 6, 7]) rfl (rfl) (by decide) (by omega) w4 (IntsR.nil _ _) (unhide I4))
      rw [(unhide CB).2] at CH
      go_wp2_with fail
      refine (unhide CH).mono ?_
      rintro e w6 ⟨rfl, b6⟩
      have B6 := hide ((unhide B4).trans (b6.mono (unhide B4).size))
      clear b6 CH
      go_wp2
      go_ret
      exact ⟨rfl, unhide B6⟩
    · obtain ⟨W5, hW5⟩ : ∃ W5, w4.alloc (.cells #[.int .i64 0] 3) = W5 := ⟨_, rfl⟩
      have b5 : Below w4.heap.size w4 W5 := by rw [← hW5]; exact (Below.refl _ w4).alloc (Nat.le_refl _) _
      have i5 : IntsR W5 (some ⟨w4.heap.size, 0, none⟩) [0] := by rw [← hW5]; exact one_int w4 0
      have s5 : W5.heap.size = w4.heap.size + 1 := by rw [← hW5]; simp
      obtain ⟨W6, hW6, b6, x6, _⟩ := boxed W5 (.slice (some ⟨w3.heap.size, 0, none⟩) (8) 8) (.slice (some ⟨w4.heap.size, 0, none⟩) 1 1)
      have CH := hide (check_any (some ⟨w3.heap.size, 0, none⟩) (some ⟨w4.heap.size, 0, none⟩) (8) 1 8 1 ([0, 1, 2, 3, 4, 5, 6, 7]) [0] (rfl) rfl (by omega) (by decide) W6 (((unhide I4).below b5).below b6) (i5.below b6))
      rw [(unhide CB).1] at CH
      have HW6 : Hid ((w4.alloc (.cells #[.int .i64 0] 3)).alloc (.cells #[.slice (some ⟨w3.heap.size, 0, none⟩) (8) 8, .slice (some ⟨w4.heap.size, 0, none⟩) 1 1] 24) = W6) := by rw [hW5]; exact hW6
      have B6 := hide ((unhide B4).trans ((b5.trans (b6.mono b5.size)).mono (unhide B4).size))
      rw [s5] at x6
      obtain ⟨c0, c1⟩ := two_cells x6
      clear hW5 b5 i5 s5 hW6 b6 x6
      go_upto_region 21 with fail
      rw [unhide HW6]
      clear HW6
      go_wp2_with fail
      refine (unhide CH).mono ?_
      rintro e w7 ⟨rfl, b7⟩
      have B7 := hide ((unhide B6).trans (b7.mono (unhide B6).size))
      clear b7 CH
      go_wp2
      go_ret
      exact ⟨rfl, unhide B7⟩
  · cases old
    · have CH := hide (check_any none none 0 0 0 0 [] [] rfl rfl (by decide) (by decide) w3 (IntsR.nil _ _) (IntsR.nil _ _))
      rw [show checkOf [] [] = 2 from rfl] at CH
      go_wp2_with fail
      refine (unhide CH).mono ?_
      rintro e w6 ⟨rfl, b6⟩
      have B6 := hide ((unhide B3).trans (b6.mono (unhide B3).size))
      clear b6 CH
      go_wp2
      go_ret
      exact ⟨rfl, unhide B6⟩
    · obtain ⟨W5, hW5⟩ : ∃ W5, w3.alloc (.cells #[.int .i64 0] 3) = W5 := ⟨_, rfl⟩
      have b5 : Below w3.heap.size w3 W5 := by rw [← hW5]; exact (Below.refl _ w3).alloc (Nat.le_refl _) _
      have i5 : IntsR W5 (some ⟨w3.heap.size, 0, none⟩) [0] := by rw [← hW5]; exact one_int w3 0
      have s5 : W5.heap.size = w3.heap.size + 1 := by rw [← hW5]; simp
      obtain ⟨W6, hW6, b6, x6, _⟩ := boxed W5 (.slice none 0 0) (.slice (some ⟨w3.heap.size, 0, none⟩) 1 1)
      have CH := hide (check_any none (some ⟨w3.heap.size, 0, none⟩) 0 1 0 1 [] [0] rfl rfl (by decide) (by decide) W6 (IntsR.nil _ _) (i5.below b6))
      rw [show checkOf [] [0] = 0 from rfl] at CH
      have HW6 : Hid ((w3.alloc (.cells #[.int .i64 0] 3)).alloc (.cells #[.slice none 0 0, .slice (some ⟨w3.heap.size, 0, none⟩) 1 1] 24) = W6) := by rw [hW5]; exact hW6
      have B6 := hide ((unhide B3).trans ((b5.trans (b6.mono b5.size)).mono (unhide B3).size))
      rw [s5] at x6
      have X6 := hide x6
      obtain ⟨c0, c1⟩ := two_cells x6
      clear hW5 b5 i5 s5 hW6 b6 x6
      go_upto_region 21 with fail
      rw [unhide HW6]
      clear HW6
      go_wp2_with fail
      refine (unhide CH).mono ?_
      rintro e w7 ⟨rfl, b7⟩
      have B7 := hide ((unhide B6).trans (b7.mono (unhide B6).size))
      obtain ⟨d0, d1⟩ := two_cells (Below.stay b7 (unhide X6))
      have JO := hide (joint_any (.slice none 0 0) (.slice (some ⟨w3.heap.size, 0, none⟩) 1 1) none 0 0 rfl w7)
      rw [show decide (0 < 0) = false from rfl] at JO
      clear b7 CH c0 c1
      go_wp2_with fail
      refine (unhide JO).mono ?_
      rintro e w8 ⟨rfl, b8⟩
      have B8 := hide ((unhide B7).trans (b8.mono (unhide B7).size))
      clear b8 JO
      go_wp2
      go_ret
      exact ⟨rfl, unhide B8⟩
end Go.Proofs.Ythemdkfmlkaifaa

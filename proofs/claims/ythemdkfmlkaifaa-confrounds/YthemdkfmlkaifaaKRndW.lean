/- ConfRounds: the walk. -/
import Derived.Test.YthemdkfmlkaifaaKLeave
import Derived.Test.YthemdkfmlkaifaaKKnown
import Derived.Test.YthemdkfmlkaifaaKSameC
import Derived.Deep.RegionHeldLaw
namespace Go.Proofs.Ythemdkfmlkaifaa
open Go.RowKit

theorem two_box {y : World} {B : Nat} {a b x0 x1 : Value} {t : TypeId} (hz : y.heap[B]? = some (.cells #[x0, x1] t (0, 0))) : ((y.setCell ⟨B, 0, none⟩ a).setCell ⟨B, 1, none⟩ b).heap[B]? = some (.cells #[a, b] t (0, 0)) := by
  simp [World.setCell, Array.getElem?_modify, hz]
/-- numbers do not lie in a box of slices. -/
theorem IntsR.apart {w : World} {ao : Option Addr} {xs : List Int} (h : IntsR w ao xs) (hne : xs ≠ []) {B : Nat} {o1 o2 : Option Addr} {n1 n2 c1 c2 : Nat} {t : TypeId} {fr : Nat × Nat} (hB : w.heap[B]? = some (.cells #[.slice o1 n1 c1, .slice o2 n2 c2] t fr)) : ∀ a, ao = some a → a.block ≠ B := fun a ha hb => by
  obtain ⟨a', e, hc⟩ := h 0 (List.length_pos_iff.2 hne)
  rw [ha] at e; cases e
  have hh : w.heap[(a.add 0).block]? = some (.cells #[.slice o1 n1 c1, .slice o2 n2 c2] t fr) := by rw [add_block, hb]; exact hB
  simp only [World.cell?, hh] at hc
  split at hc
  · cases hc
  · have := Array.mem_of_getElem? hc
    simp at this
theorem Cf.other {y W : World} {B : Nat} {v : Value} {cs : List Int} (h : Cf y v [] cs) (hne : cs ≠ []) {o1 o2 : Option Addr} {n1 n2 c1 c2 : Nat} {t : TypeId} {fr : Nat × Nat} (hB : y.heap[B]? = some (.cells #[.slice o1 n1 c1, .slice o2 n2 c2] t fr)) (hk : ∀ k, k ≠ B → W.heap[k]? = y.heap[k]?) : Cf W v [] cs := by
  obtain ⟨ao, no, co, an, nn, cn, h1, h2, h3, h4, h5, h6, h7⟩ := h
  exact ⟨ao, no, co, an, nn, cn, h1, h2, h3, ⟨IntsR.nil _ _, h4.2⟩, h5, h6, h7.other hk (h7.1.apart hne hB)⟩
theorem barred_same (cs : List Int) (hu : Up cs) (hl : cs.length ≤ 7) (hn : cs ≠ []) : barredOf [] cs cs = 7 := by
  unfold barredOf
  rw [if_neg (by simp), if_pos (check_good Up.nil (by simp) hu hl hn), if_pos rfl]
theorem barred_free {cs ts : List Int} (hu : Up ts) (hl : ts.length ≤ 7) (hn : ts ≠ []) (h : ¬ cs = ts) : barredOf [] cs ts = 0 := by
  unfold barredOf
  rw [if_neg (by simp), if_pos (check_good Up.nil (by simp) hu hl hn), if_neg (fun e => h e.symm)]
theorem barred_busy {os cs ts : List Int} (h : os ≠ []) : barredOf os cs ts = 15 := by unfold barredOf; rw [if_pos h]
theorem in_parts (cs ts : List Int) (x : Int) : inOf cs ts x = (inOf [] cs x || inOf [] ts x) := by simp [inOf]

set_option maxRecDepth 20000 in
set_option maxHeartbeats 8000000 in
theorem rounds_walk (bits : Int) (ay : Option Addr) (m d : Nat) (tos : List Int) (hm : tos.length = m) (hmm : m ≤ maxLen) (w : World) (hy : IntsR w ay tos) :
    Calls Try.prog 8 #[.int .i64 bits, .slice ay m d] w fun e w' => e = .returned (.bool true) ∧ Below w.heap.size w w' := by
  have hmm' : m ≤ 9223372036854775807 := hmm
  have KN := hide (known_any w)
  have HY := hide hy
  have HM := hide hm
  clear hy hm hmm
  go_enter Try.func8, Try.ntmps8
  go_wp2_with fail
  refine (unhide KN).mono ?_
  rintro e w1 ⟨rfl, b1⟩
  have B1 := hide b1
  have PL := hide (plain_any bits w1)
  clear b1 KN
  go_wp2_with fail
  refine (unhide PL).mono ?_
  rintro e w2 ⟨an, n, c, rfl, hn, hnc, fr, b2⟩
  obtain ⟨W, hW, bW, xW, _⟩ := boxed w2 (.slice none 0 0) (.slice an n c)
  have HW := hide hW
  have B2 := hide ((unhide B1).trans (b2.mono (unhide B1).size))
  have BW := hide ((unhide B2).trans (bW.mono (unhide B2).size))
  have XW := hide xW
  have CW : Hid (Cf W (.agg #[.slice none 0 0, .slice an n c]) [] (plainOf (bitOf bits))) := ⟨none, 0, 0, an, n, c, rfl, rfl, Nat.le_refl _, Fr.nil _, hn, hnc, fr.below bW⟩
  have hB5 := (unhide B2).size
  clear hW bW xW fr b2 hn PL B1 B2
  go_upto_region 4 with fail
  rw [unhide HW]
  clear HW
  go_wp2_with fail
  go_loopw [6, 7, 8, 9, 10, 11, 12, 13, 14, 15, 16] (fun i _ _ _ _ _ _ _ _ _ _ wr => ∃ (k : Nat) (vo vn : Value) (cs : List Int), k ≤ m ∧ i = .int .i64 k ∧ wr.heap[w2.heap.size]? = some (.cells #[vo, vn] 24 (0, 0)) ∧ Cf wr (.agg #[vo, vn]) [] cs ∧ Up cs ∧ cs.length ≤ 7 ∧ cs ≠ [] ∧ Below w.heap.size w wr) (fun i _ _ _ _ _ _ _ _ _ _ _ => m - (intOf i).toNat)
  case atStart => exact ⟨0, _, _, _, Nat.zero_le _, rfl, unhide XW, unhide CW, plain_Up _, plain_len _, plain_ne _, unhide BW⟩
  case round =>
    clear XW CW
    obtain ⟨k, vo, vn, cs, hk, rfl, x5, ⟨ao, no, co, an', nn, cn, ec, eno, _, fo, enn, hcn, fn⟩, hup, hl7, hne, hbel⟩ := hrel
    cases ec
    simp only [List.length_nil] at eno
    subst eno
    have BEL := hide hbel
    by_cases hlt : k < m
    · have q : (k : Int) < m := by omega
      by_cases h20 : k < 20
      · have q2 : (k : Int) < 20 := by omega
        obtain ⟨a1, ha1, h1⟩ := ((unhide HY).below hbel) k (by rw [unhide HM]; exact hlt)
        subst ha1
        obtain ⟨tb, htb⟩ : ∃ tb, tos.getD k 0 = tb := ⟨_, rfl⟩
        rw [htb] at h1
        have PL := hide (plain_any tb wr)
        obtain ⟨ts, hts⟩ : ∃ ts, plainOf (bitOf tb) = ts := ⟨_, rfl⟩
        have htu : Up ts := by rw [← hts]; exact plain_Up _
        have htl : ts.length ≤ 7 := by rw [← hts]; exact plain_len _
        have htn : ts ≠ [] := by rw [← hts]; exact plain_ne _
        rw [hts] at PL
        have ENN := hide enn
        have hnn7 : nn ≤ 7 := by omega
        have U0 := hide (And.intro hup (And.intro hl7 hne))
        have U1 := hide (And.intro htu (And.intro htl htn))
        have S0 := hide (fun (Y : World) (h : Below wr.heap.size wr Y) => And.intro (Below.stay h x5) (fn.below h))
        have FO2 := hide fo.2
        have SZ0 := hide (heap_lt x5)
        clear htb hts x5 fo enn fn hup hl7 hne htu htl htn hbel
        go_wp2_with fail
        refine (unhide PL).mono ?_
        rintro e w3 ⟨at', nt, ct, rfl, ent, htc, ft, b3⟩
        have hnt7 : nt ≤ 7 := by rw [← ent]; exact (unhide U1).2.1
        obtain ⟨A1, hA1, bA1, xA1, sA1⟩ := boxed w3 (.slice none 0 0) (.slice at' nt ct)
        have b31 := b3.trans (bA1.mono b3.size)
        have ENT := hide ent
        have BA1 := hide ((unhide BEL).trans (b31.mono (unhide BEL).size))
        have S1 := hide (fun (Y : World) (h : Below A1.heap.size A1 Y) => And.intro (unhide S0 Y (b31.trans (h.mono b31.size))) (And.intro (Below.stay h xA1) ((ft.below bA1).below h)))
        have HA1 := hide hA1
        clear hA1 bA1 xA1 sA1 b31 ent ft b3 PL S0 h1
        go_upto_region 8 with fail
        rw [unhide HA1]
        clear HA1
        obtain ⟨⟨x5, f5⟩, x7, f7⟩ := unhide S1 A1 (Below.refl _ _)
        obtain ⟨c0, c1⟩ := two_cells x5
        obtain ⟨d0, d1⟩ := two_cells x7
        have EN := hide (enter_any ao an' at' 0 nn nt co cn ct [] cs ts rfl (unhide ENN) (unhide ENT) (by decide) (by omega) (by omega) A1 f5.1 f7.1)
        clear x5 f5 x7 f7
        by_cases hsame : cs = ts
        · rw [show barredOf [] cs ts = 7 by rw [← hsame]; exact barred_same cs (unhide U0).1 (unhide U0).2.1 (unhide U0).2.2] at EN
          have ESM : Hid (sameOf [] cs [] ts = true) := by show _ = _; unfold sameOf; rw [decide_eq_true rfl, decide_eq_true hsame]; rfl
          clear hsame
          go_wp2_with fail
          refine (unhide EN).mono ?_
          rintro e w4 ⟨v4, rfl, ⟨jo, n1, p1, jn, n2, p2, rfl, _, _, _, _, _, _⟩, b4⟩
          obtain ⟨A2, hA2, bA2, _, sA2⟩ := boxed w4 (.slice jo n1 p1) (.slice jn n2 p2)
          have b42 := b4.trans (bA2.mono b4.size)
          have HA2 := hide hA2
          have BA2 := hide ((unhide BA1).trans (b42.mono (unhide BA1).size))
          obtain ⟨⟨x5, f5⟩, x7, f7⟩ := unhide S1 A2 b42
          have SM := hide (same_any ao an' none at' 0 nn co cn 0 nt 0 ct [] cs [] ts rfl (unhide ENN) rfl (unhide ENT) (by decide) (by omega) A2 (IntsR.nil _ _) f5.1 (IntsR.nil _ _) f7.1)
          rw [unhide ESM] at SM
          clear c0 c1 d0 d1
          obtain ⟨c0, c1⟩ := two_cells x5
          obtain ⟨d0, d1⟩ := two_cells x7
          have S2 := hide (fun (Y : World) (h : Below A2.heap.size A2 Y) => (unhide S1 Y (b42.trans (h.mono b42.size))).1)
          clear hA2 bA2 sA2 b42 b4 x5 f5 x7 f7 EN S1
          go_upto_region 9 with fail
          rw [unhide HA2]
          clear HA2
          go_wp2_with fail
          refine (unhide SM).mono ?_
          rintro e w5 ⟨rfl, b5⟩
          have B5 := hide ((unhide BA2).trans (b5.mono (unhide BA2).size))
          have S3 := hide (unhide S2 _ b5)
          clear b5 SM S2 c0 c1 d0 d1
          go_wp2
          go_roundw
          case rel => exact ⟨k + 1, _, _, cs, by omega, by go_num, (unhide S3).1, ⟨ao, 0, co, an', nn, cn, rfl, rfl, Nat.zero_le _, ⟨IntsR.nil _ _, unhide FO2⟩, unhide ENN, hcn, (unhide S3).2⟩, (unhide U0).1, (unhide U0).2.1, (unhide U0).2.2, unhide B5⟩
          case measure => simp [intOf]; omega
        · rw [show barredOf [] cs ts = 0 from barred_free (unhide U1).1 (unhide U1).2.1 (unhide U1).2.2 hsame] at EN
          have EO : Hid (entO [] cs ts = cs ∧ entN [] cs ts = ts) := by
            unfold entO entN
            rw [barred_free (unhide U1).1 (unhide U1).2.1 (unhide U1).2.2 hsame]
            exact ⟨rfl, rfl⟩
          rw [(unhide EO).1, (unhide EO).2] at EN
          have ESM : Hid (sameOf [] cs [] ts = false) := by show _ = _; unfold sameOf; rw [decide_eq_true rfl, decide_eq_false hsame]; rfl
          clear hsame EO
          go_wp2_with fail
          refine (unhide EN).mono ?_
          rintro e w4 ⟨v4, rfl, ⟨jo, n1, p1, jn, n2, p2, rfl, e1, _, fj, e2, _, gj⟩, b4⟩
          obtain rfl : nn = n1 := (unhide ENN).symm.trans e1
          obtain rfl : nt = n2 := (unhide ENT).symm.trans e2
          obtain ⟨A2, hA2, bA2, xA2, sA2⟩ := boxed w4 (.slice jo nn p1) (.slice jn nt p2)
          have b42 := b4.trans (bA2.mono b4.size)
          have HA2 := hide hA2
          have BA2 := hide ((unhide BA1).trans (b42.mono (unhide BA1).size))
          obtain ⟨⟨x5, f5⟩, x7, f7⟩ := unhide S1 A2 b42
          have SM := hide (same_any ao an' none at' 0 nn co cn 0 nt 0 ct [] cs [] ts rfl (unhide ENN) rfl (unhide ENT) (by decide) (by omega) A2 (IntsR.nil _ _) f5.1 (IntsR.nil _ _) f7.1)
          rw [unhide ESM] at SM
          clear c0 c1 d0 d1
          obtain ⟨c0, c1⟩ := two_cells x5
          obtain ⟨d0, d1⟩ := two_cells x7
          have S2 := hide (fun (Y : World) (h : Below A2.heap.size A2 Y) => And.intro (unhide S1 Y (b42.trans (h.mono b42.size))) (And.intro (Below.stay h xA2) (And.intro ((fj.below bA2).below h) ((gj.below bA2).below h))))
          clear hA2 bA2 sA2 b42 b4 x5 f5 x7 f7 EN S1 e1 e2 xA2 fj gj
          go_upto_region 9 with fail
          rw [unhide HA2]
          clear HA2
          go_wp2_with fail
          refine (unhide SM).mono ?_
          rintro e w5 ⟨rfl, b5⟩
          clear SM c0 c1 d0 d1 ESM
          obtain ⟨⟨⟨x5, f5⟩, x7, f7⟩, x8, fj, gj⟩ := unhide S2 _ b5
          obtain ⟨c0, c1⟩ := two_cells x5
          obtain ⟨d0, d1⟩ := two_cells x7
          obtain ⟨e0, e1⟩ := two_cells x8
          have hnn0 : 0 < nn := by rw [← unhide ENN]; exact List.length_pos_iff.2 (unhide U0).2.2
          have JO := hide (joint_any (.slice jo nn p1) (.slice jn nt p2) jo nn p1 rfl w5)
          rw [decide_eq_true hnn0] at JO
          have E5 := hide b5
          clear b5 x5 f5 x7 f7 x8 fj gj
          go_wp2_with fail
          refine (unhide JO).mono ?_
          rintro e w6 ⟨rfl, b6⟩
          have b26 := (unhide E5).trans (b6.mono (unhide E5).size)
          clear JO c0 c1 d0 d1 e0 e1
          obtain ⟨⟨⟨x5, f5⟩, x7, f7⟩, x8, fj, gj⟩ := unhide S2 _ b26
          obtain ⟨c0, c1⟩ := two_cells x5
          obtain ⟨d0, d1⟩ := two_cells x7
          obtain ⟨e0, e1⟩ := two_cells x8
          have SI := hide (sameInts_any jo an' nn nn p1 cn cs cs (unhide ENN) (unhide ENN) (by omega) w6 fj.1 f5.1)
          rw [decide_eq_true rfl] at SI
          have E6 := hide b26
          clear b6 b26 x5 f5 x7 f7 x8 fj gj E5
          go_wp2_with fail
          refine (unhide SI).mono ?_
          rintro e w7 ⟨rfl, b7⟩
          have b27 := (unhide E6).trans (b7.mono (unhide E6).size)
          clear SI c0 c1 d0 d1 e0 e1
          obtain ⟨⟨⟨x5, f5⟩, x7, f7⟩, x8, fj, gj⟩ := unhide S2 _ b27
          obtain ⟨c0, c1⟩ := two_cells x5
          obtain ⟨d0, d1⟩ := two_cells x7
          obtain ⟨e0, e1⟩ := two_cells x8
          have SI := hide (sameInts_any jn at' nt nt p2 ct ts ts (unhide ENT) (unhide ENT) (by omega) w7 gj.1 f7.1)
          rw [decide_eq_true rfl] at SI
          have E7 := hide b27
          clear b7 b27 x5 f5 x7 f7 x8 fj gj E6
          go_wp2_with fail
          refine (unhide SI).mono ?_
          rintro e w8 ⟨rfl, b8⟩
          have E8 := hide ((unhide E7).trans (b8.mono (unhide E7).size))
          clear SI c0 c1 d0 d1 e0 e1 b8 E7
          go_wp2_with fail
          go_loopw [10] (fun i wq => ∃ z : Nat, z ≤ 9 ∧ i = .int .i64 z ∧ Below A2.heap.size A2 wq) (fun i _ => 9 - (intOf i).toNat)
          case atStart => exact ⟨0, Nat.zero_le _, rfl, unhide E8⟩
          case round =>
            clear E8
            obtain ⟨z, hz, rfl, bq⟩ := hrel
            have EQ := hide bq
            by_cases hz9 : z < 9
            · have q9 : (z : Int) < 9 := by omega
              have FOC := hide (fun (Y : World) => (⟨IntsR.nil Y ao, unhide FO2⟩ : Fr Y ao []))
              have INJ := hide (fun (Y : World) (h : Below A2.heap.size A2 Y) => in_any jo jn nn nt p1 p2 cs ts (unhide ENN) (unhide ENT) (by omega) (by omega) (z : Int) Y (unhide S2 Y h).2.2.1 (unhide S2 Y h).2.2.2)
              have INC := hide (fun (Y : World) (h : Below A2.heap.size A2 Y) => in_any ao an' 0 nn co cn [] cs rfl (unhide ENN) (by decide) (by omega) (z : Int) Y (unhide FOC Y) (unhide S2 Y h).1.1.2)
              have INT := hide (fun (Y : World) (h : Below A2.heap.size A2 Y) => in_any none at' 0 nt 0 ct [] ts rfl (unhide ENT) (by decide) (by omega) (z : Int) Y (Fr.nil Y) (unhide S2 Y h).1.2.2)
              have SX := hide (fun (Y : World) (h : Below A2.heap.size A2 Y) => And.intro (two_cells (unhide S2 Y h).1.1.1) (And.intro (two_cells (unhide S2 Y h).1.2.1) (two_cells (unhide S2 Y h).2.1)))
              have ED := hide (unhide EQ).drew
              rw [in_parts] at INJ
              obtain ⟨r1, hr1⟩ : ∃ r1, inOf [] cs (z : Int) = r1 := ⟨_, rfl⟩
              obtain ⟨r2, hr2⟩ : ∃ r2, inOf [] ts (z : Int) = r2 := ⟨_, rfl⟩
              rw [hr1] at INC
              rw [hr2] at INT
              rw [hr1, hr2] at INJ
              clear hr1 hr2 bq FOC
              cases r1
              · rw [Bool.false_or] at INJ
                go_wp2_with fail
                go_region_held_law (fun Y => (Y.cell? ⟨w2.heap.size, 0, none⟩ = some (.slice ao 0 co) ∧ Y.cell? ⟨w2.heap.size, 1, none⟩ = some (.slice an' nn cn)) ∧ (Y.cell? ⟨w3.heap.size, 0, none⟩ = some (.slice none 0 0) ∧ Y.cell? ⟨w3.heap.size, 1, none⟩ = some (.slice at' nt ct)) ∧ Y.cell? ⟨w4.heap.size, 0, none⟩ = some (.slice jo nn p1) ∧ Y.cell? ⟨w4.heap.size, 1, none⟩ = some (.slice jn nt p2))
                  (first | exact unhide SX _ (unhide EC) | exact unhide SX _ (unhide EB) | exact unhide SX _ (unhide EA) | exact unhide SX _ (unhide ED))
                  (first
                    | (go_at_call_of 20 (Value.agg #[.slice jo nn p1, .slice jn nt p2])
                       refine (unhide INJ _ (unhide ED)).mono ?_
                       rintro e wa ⟨rfl, ba⟩
                       have EA := hide ((unhide ED).trans (ba.mono (unhide ED).size))
                       clear ba)
                    | (go_at_call_of 20 (Value.agg #[.slice ao 0 co, .slice an' nn cn])
                       refine (unhide INC _ (unhide EA)).mono ?_
                       rintro e wb ⟨rfl, bb⟩
                       have EB := hide ((unhide EA).trans (bb.mono (unhide EA).size))
                       clear bb)
                    | (go_at_call_of 20 (Value.agg #[.slice none 0 0, .slice at' nt ct])
                       refine (unhide INT _ (unhide EB)).mono ?_
                       rintro e wd ⟨rfl, bd⟩
                       have EC := hide ((unhide EB).trans (bd.mono (unhide EB).size))
                       clear bd))
                go_wp2
                go_roundw
                case rel => exact ⟨z + 1, by omega, by go_num, unhide EC⟩
                case measure => simp [intOf]; omega
              · rw [Bool.true_or] at INJ
                obtain ⟨⟨c0, c1⟩, ⟨d0, d1⟩, e0, e1⟩ := unhide SX _ (unhide EQ)
                go_wp2_with fail
                first
                | (go_region_with (first
                    | (go_at_call_of 20 (Value.agg #[.slice jo nn p1, .slice jn nt p2])
                       refine (unhide INJ _ (unhide ED)).mono ?_
                       rintro e wa ⟨rfl, ba⟩
                       have EA := hide ((unhide ED).trans (ba.mono (unhide ED).size))
                       obtain ⟨⟨c2, c3⟩, ⟨d2, d3⟩, e2, e3⟩ := unhide SX _ (unhide EA)
                       clear ba)
                    | (go_at_call_of 20 (Value.agg #[.slice ao 0 co, .slice an' nn cn])
                       refine (unhide INC _ (unhide EA)).mono ?_
                       rintro e wb ⟨rfl, bb⟩
                       have EB := hide ((unhide EA).trans (bb.mono (unhide EA).size))
                       clear bb)))
                | fail
                all_goals go_wp2
                all_goals go_roundw
                all_goals first
                  | exact ⟨z + 1, by omega, by go_num, unhide EB⟩
                  | (simp [intOf]; omega)
            · obtain rfl : z = 9 := by omega
              obtain ⟨⟨⟨x5, f5⟩, x7, f7⟩, x8, fj, gj⟩ := unhide S2 _ bq
              obtain ⟨d0, d1⟩ := two_cells x7
              obtain ⟨e0, e1⟩ := two_cells x8
              have EN := hide (enter_any jo jn at' nn nt nt p1 p2 ct cs ts ts (unhide ENN) (unhide ENT) (unhide ENT) (by omega) (by omega) (by omega) wr gj.1 f7.1)
              rw [barred_busy (unhide U0).2.2] at EN
              clear x5 f5 x7 f7 x8 fj gj bq
              go_wp2_with fail
              refine (unhide EN).mono ?_
              rintro e w9 ⟨v9, rfl, ⟨ho, n3, p3, hn', n4, p4, rfl, _, _, _, _, _, _⟩, b9⟩
              obtain ⟨A3, hA3, bA3, _, _⟩ := boxed w9 (.slice ho n3 p3) (.slice hn' n4 p4)
              have b3' := b9.trans (bA3.mono b9.size)
              have E3 := hide ((unhide EQ).trans (b3'.mono (unhide EQ).size))
              have HA3 := hide hA3
              clear hA3 bA3 b3' b9 EN d0 d1 e0 e1
              go_upto_region 20 with fail
              rw [unhide HA3]
              clear HA3
              obtain ⟨⟨⟨x5, f5⟩, x7, f7⟩, x8, fj, gj⟩ := unhide S2 _ (unhide E3)
              obtain ⟨e0, e1⟩ := two_cells x8
              have LV := hide (leave_any jo jn nn nt p1 p2 cs ts (unhide ENN) (unhide ENT) (by omega) A3 gj.1)
              have hlv : leaveOf cs = 0 ∧ leaveN cs ts = ts := by
                unfold leaveOf leaveN
                rw [if_neg (unhide U0).2.2, if_neg (unhide U0).2.2]; exact ⟨rfl, rfl⟩
              rw [hlv.1, hlv.2] at LV
              clear x5 f5 x7 f7 x8 fj gj hlv
              go_wp2_with fail
              refine (unhide LV).mono ?_
              rintro e wA ⟨vA, rfl, ⟨go, n5, p5, gn, n6, p6, rfl, e5, _, fgo, e6, hc6, fgn⟩, bA⟩
              simp only [List.length_nil] at e5
              subst e5
              obtain rfl : nt = n6 := (unhide ENT).symm.trans e6
              obtain ⟨A4, hA4, bA4, xA4, _⟩ := boxed wA (.slice go 0 p5) (.slice gn nt p6)
              have b4' := bA.trans (bA4.mono bA.size)
              have E4 := hide ((unhide E3).trans (b4'.mono (unhide E3).size))
              have HA4 := hide hA4
              have FG2 := hide fgo.2
              have S4 := hide (fun (Y : World) (h : Below A4.heap.size A4 Y) => And.intro (Below.stay h xA4) ((fgn.below bA4).below h))
              clear hA4 bA4 b4' bA LV e0 e1 fgo fgn xA4 e6
              go_upto_region 21 with fail
              rw [unhide HA4]
              clear HA4
              obtain ⟨x13, f13⟩ := unhide S4 A4 (Below.refl _ _)
              obtain ⟨h0, h1⟩ := two_cells x13
              have LV := hide (leave_any go gn 0 nt p5 p6 [] ts rfl (unhide ENT) (by omega) A4 f13.1)
              rw [show leaveOf [] = 2 from rfl] at LV
              clear x13 f13
              go_wp2_with fail
              refine (unhide LV).mono ?_
              rintro e wC ⟨vC, rfl, ⟨yo, n7, p7, yn, n8, p8, rfl, _, _, _, _, _, _⟩, bC⟩
              obtain ⟨A5, hA5, bA5, _, _⟩ := boxed wC (.slice yo n7 p7) (.slice yn n8 p8)
              have b5' := bC.trans (bA5.mono bC.size)
              have E5 := hide ((unhide E4).trans (b5'.mono (unhide E4).size))
              have D5 := hide b5'
              have HA5 := hide hA5
              clear hA5 bA5 b5' bC LV h0 h1
              go_upto_region 22 with fail
              rw [unhide HA5]
              clear HA5
              obtain ⟨⟨⟨x5, f5⟩, x7, f7⟩, x8, fj, gj⟩ := unhide S2 _ (unhide E5)
              obtain ⟨x13, f13⟩ := unhide S4 A5 (unhide D5)
              obtain ⟨h0, h1⟩ := two_cells x13
              obtain ⟨d0, d1⟩ := two_cells x7
              have SM := hide (same_any go gn none at' 0 nt p5 p6 0 nt 0 ct [] ts [] ts rfl (unhide ENT) rfl (unhide ENT) (by decide) (by omega) A5 (IntsR.nil _ _) f13.1 (IntsR.nil _ _) f7.1)
              rw [show sameOf [] ts [] ts = true by unfold sameOf; rw [decide_eq_true rfl, decide_eq_true rfl]; rfl] at SM
              clear x5 f5 x7 f7 x8 fj gj x13 f13
              go_wp2_with fail
              refine (unhide SM).mono ?_
              rintro e wE ⟨rfl, bE⟩
              have E6 := hide ((unhide E5).trans (bE.mono (unhide E5).size))
              have D6 := hide ((unhide D5).trans (bE.mono (unhide D5).size))
              clear SM h0 h1 d0 d1 bE
              obtain ⟨⟨⟨x5, f5⟩, x7, f7⟩, x8, fj, gj⟩ := unhide S2 _ (unhide E6)
              obtain ⟨x13, f13⟩ := unhide S4 _ (unhide D6)
              obtain ⟨c0, c1⟩ := two_cells x5
              obtain ⟨g0, g1⟩ := two_free x5
              obtain ⟨h0, h1⟩ := two_cells x13
              have B6 := hide ((unhide BA2).trans ((unhide E6).mono (unhide BA2).size))
              have X5 := hide x5
              have C13 : Hid (Cf wE (.agg #[.slice go 0 p5, .slice gn nt p6]) [] ts) := ⟨go, 0, p5, gn, nt, p6, rfl, rfl, Nat.zero_le _, ⟨IntsR.nil _ _, unhide FG2⟩, unhide ENT, hc6, f13⟩
              clear x5 f5 x7 f7 x8 fj gj x13 f13
              go_wp2
              go_roundw
              case rel =>
                obtain ⟨_, _, rb, rk⟩ := two_end (a := .slice go 0 p5) (b := .slice gn nt p6) (unhide X5) hB5 (unhide B6)
                exact ⟨k + 1, _, _, ts, by omega, by go_num, two_box (unhide X5), (unhide C13).other (unhide U1).2.2 (unhide X5) rk, (unhide U1).1, (unhide U1).2.1, (unhide U1).2.2, rb⟩
              case measure => simp [intOf]; omega
      · go_wp2
        go_ret
        exact ⟨rfl, unhide BEL⟩
    · go_wp2
      go_ret
      exact ⟨rfl, unhide BEL⟩
end Go.Proofs.Ythemdkfmlkaifaa

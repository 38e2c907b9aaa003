/- ConfSteps: the walk. -/
import Derived.Test.YthemdkfmlkaifaaKRefE
import Derived.Test.YthemdkfmlkaifaaKKnown
import Derived.Test.YthemdkfmlkaifaaKSameC
import Derived.Test.YthemdkfmlkaifaaKGood
import Derived.Deep.RegionHeldLaw
namespace Go.Proofs.Ythemdkfmlkaifaa
open Go.RowKit

/-- numbers do not lie in a box of slices. -/
theorem IntsR.apart {w : World} {ao : Option Addr} {xs : List Int} (h : IntsR w ao xs) (hne : xs ≠ []) {B : Nat} {o1 o2 : Option Addr} {n1 n2 c1 c2 : Nat} {t : TypeId} {fr : Nat × Nat} (hB : w.heap[B]? = some (.cells #[.slice o1 n1 c1, .slice o2 n2 c2] t fr)) : ∀ a, ao = some a → a.block ≠ B := fun a ha hb => by
  obtain ⟨a', e, hc⟩ := h 0 (List.length_pos_iff.2 hne)
  rw [ha] at e; cases e
  have hh : w.heap[(a.add 0).block]? = some (.cells #[.slice o1 n1 c1, .slice o2 n2 c2] t fr) := by rw [add_block, hb]; exact hB
  simp only [World.cell?, hh] at hc
  split at hc
  · cases hc
  · have := Array.mem_of_getElem? hc
    simp at this
theorem Fr.far {y W : World} {ao : Option Addr} {xs : List Int} (h : Fr y ao xs) {B : Nat} {o1 o2 : Option Addr} {n1 n2 c1 c2 : Nat} {t : TypeId} {fr : Nat × Nat} (hB : y.heap[B]? = some (.cells #[.slice o1 n1 c1, .slice o2 n2 c2] t fr)) (hk : ∀ k, k ≠ B → W.heap[k]? = y.heap[k]?) : Fr W ao xs := by
  by_cases hx : xs = []
  · subst hx; exact ⟨IntsR.nil _ _, h.2⟩
  · exact h.other hk (h.1.apart hx hB)
theorem two_box {y : World} {B : Nat} {a b x0 x1 : Value} {t : TypeId} (hz : y.heap[B]? = some (.cells #[x0, x1] t (0, 0))) : ((y.setCell ⟨B, 0, none⟩ a).setCell ⟨B, 1, none⟩ b).heap[B]? = some (.cells #[a, b] t (0, 0)) := by
  simp [World.setCell, Array.getElem?_modify, hz]
theorem same_self (o n : List Int) : sameOf o n o n = true := by unfold sameOf; rw [decide_eq_true rfl, decide_eq_true rfl]; rfl

set_option maxRecDepth 20000 in
set_option maxHeartbeats 8000000 in
theorem steps_walk (old now : Int) (at' : Option Addr) (nt ct : Nat) (ts : List Int) (hm : ts.length = nt) (hmm : nt ≤ maxLen) (bits : Int) (w : World) (ht : IntsR w at' ts) :
    Calls Try.prog 4 #[.int .i64 old, .int .i64 now, .slice at' nt ct, .int .i64 bits] w fun e w' => e = .returned (.bool true) ∧ Below w.heap.size w w' := by
  have hmm' : nt ≤ 9223372036854775807 := hmm
  have KN := hide (known_any w)
  have HT := hide ht
  have HM := hide hm
  clear ht hm hmm
  go_enter Try.func4, Try.ntmps4
  go_wp2_with fail
  refine (unhide KN).mono ?_
  rintro e w1 ⟨rfl, b1⟩
  have B1 := hide b1
  have GO := hide (good_any old now w1)
  clear b1 KN
  by_cases h30 : (30 : Int) < nt
  · go_wp2
    go_ret
    exact ⟨rfl, unhide B1⟩
  · go_wp2_with fail
    refine (unhide GO).mono ?_
    rintro e w2 ⟨v2, rfl, ⟨ao, no, co, an, nn, cn, rfl, eno, _, fo, enn, hcn, fn⟩, b2⟩
    obtain ⟨os, hos⟩ : ∃ os, lst (bitOf old) 9 = os := ⟨_, rfl⟩
    obtain ⟨ns, hns⟩ : ∃ ns, plainOf (bitOf now) = ns := ⟨_, rfl⟩
    have hno7 : no ≤ 7 := by rw [← eno]; exact lst_len _
    have hnn7 : nn ≤ 7 := by rw [← enn]; exact plain_len _
    rw [hos] at eno fo
    rw [hns] at enn fn
    obtain ⟨A0, hA0, bA0, xA0, -⟩ := boxed w2 (.slice ao no co) (.slice an nn cn)
    have b12 := (unhide B1).trans (b2.mono (unhide B1).size)
    have HA0 := hide hA0
    have BA0 := hide (b12.trans (bA0.mono b12.size))
    have S0 := hide (fun (Y : World) (h : Below A0.heap.size A0 Y) => And.intro (Below.stay h xA0) (And.intro ((fo.below bA0).below h) ((fn.below bA0).below h)))
    have ENO := hide eno
    have ENN := hide enn
    have LA := hide (list_any bits A0)
    clear hos hns eno enn fo fn b2 b12 hA0 bA0 xA0 GO B1
    go_upto_region 6 with fail
    rw [unhide HA0]
    clear HA0
    go_wp2_with fail
    refine (unhide LA).mono ?_
    rintro e w3 ⟨v3, rfl, o3, b3⟩
    obtain ⟨al, cl, rfl, fl, _, _⟩ := o3.slice
    obtain ⟨ls, hls⟩ : ∃ ls, lst (bitOf bits) 9 = ls := ⟨_, rfl⟩
    have hl7 : ls.length ≤ 7 := by rw [← hls]; exact lst_len _
    rw [hls] at fl
    rw [hls]
    obtain ⟨nl, hnl⟩ : ∃ nl, ls.length = nl := ⟨_, rfl⟩
    rw [hnl] at hl7
    rw [hnl]
    have HNL := hide hnl
    obtain ⟨A1, hA1⟩ : ∃ A1, w3.alloc (.cells #[.slice at' nt ct, .slice al nl cl] 22) = A1 := ⟨_, rfl⟩
    have bA1 : Below w3.heap.size w3 A1 := by rw [← hA1]; exact (Below.refl _ w3).alloc (Nat.le_refl _) _
    have xA1 : A1.heap[w3.heap.size]? = some (.cells #[.slice at' nt ct, .slice al nl cl] 22 (0, 0)) := by rw [← hA1]; exact box_at _ _
    have b03 := b3.trans (bA1.mono b3.size)
    have BA1 := hide ((unhide BA0).trans (b03.mono (unhide BA0).size))
    have S1 := hide (fun (Y : World) (h : Below A1.heap.size A1 Y) => And.intro (unhide S0 Y (b03.trans (h.mono b03.size))) (And.intro (Below.stay h xA1) (And.intro (((unhide HT).below (Below.mono (unhide BA1) (Nat.le_refl _))).below h) ((fl.1.below bA1).below h))))
    have SX := hide (fun (Y : World) (h : Below A1.heap.size A1 Y) => And.intro (two_cells (unhide S1 Y h).1.1) (two_cells (unhide S1 Y h).2.1))
    have HA1 := hide hA1
    clear hls fl hnl o3 b3 hA1 bA1 xA1 b03 LA S0 BA0
    go_upto_region 7 with fail
    rw [unhide HA1]
    clear HA1
    go_wp2_with fail
    go_loopw [11, 12, 13, 14, 15] (fun i _ _ _ _ wr => ∃ k : Nat, k ≤ 2 ∧ i = .int .i64 k ∧ Below A1.heap.size A1 wr) (fun i _ _ _ _ _ => 2 - (intOf i).toNat)
    case atStart => exact ⟨0, Nat.zero_le _, rfl, Below.refl _ _⟩
    case round =>
      obtain ⟨k, hk, rfl, hbel⟩ := hrel
      have BEL := hide hbel
      clear hbel
      have hcases : k = 0 ∨ k = 1 ∨ k = 2 := by omega
      rcases hcases with rfl | rfl | rfl
      · obtain ⟨r, hr⟩ : ∃ r, barredOf os ns ts = r := ⟨_, rfl⟩
        obtain ⟨eo, heo⟩ : ∃ eo, entO os ns ts = eo := ⟨_, rfl⟩
        obtain ⟨en, hen⟩ : ∃ en, entN os ns ts = en := ⟨_, rfl⟩
        have EN := hide (fun (Y : World) (h : Below A1.heap.size A1 Y) => enter_any ao an at' no nn nt co cn ct os ns ts (unhide ENO) (unhide ENN) (unhide HM) (by omega) (by omega) (by omega) Y (unhide S1 _ h).1.2.2.1 (unhide S1 _ h).2.2.1)
        have RN := hide (fun (Y : World) (h : Below A1.heap.size A1 Y) => renter_any ao an at' no nn nt co cn ct os ns ts (unhide ENO) (unhide ENN) (unhide HM) (by omega) (by omega) (by omega) Y (unhide S1 _ h).1.2.2.1 (unhide S1 _ h).2.2.1)
        rw [hr, heo, hen] at EN RN
        have hr15 : r ≤ 15 := by
          rw [← hr]; unfold barredOf
          have := check_bound [] ts
          split <;> (try split) <;> (try split) <;> omega
        have LEO : Hid (eo.length ≤ 1000000) := by
          show _ ≤ _
          rw [← heo]; unfold entO; split
          · rw [unhide ENN]; omega
          · simp
        have LEN : Hid (en.length ≤ 1000000) := by
          show _ ≤ _
          rw [← hen]; unfold entN; split
          · rw [unhide HM]; omega
          · simp
        clear hr heo hen
        obtain ⟨wk, hwk⟩ : ∃ wk, wk = wr := ⟨_, rfl⟩
        subst hwk
        go_upto_region 10 with fail
        go_cut [12, 13] from 36 to 44 (fun s1 s2 wc => ∃ (B : Nat) (jo : Option Addr) (n1 p1 : Nat) (jn : Option Addr) (n2 p2 : Nat), s1 = .pointer (some ⟨B, 0, none⟩) ∧ s2 = .int .i64 (r : Int) ∧ wc.heap[B]? = some (.cells #[.slice jo n1 p1, .slice jn n2 p2] 24 (0, 0)) ∧ eo.length = n1 ∧ Fr wc jo eo ∧ en.length = n2 ∧ Fr wc jn en ∧ Below A1.heap.size A1 wc ∧ Below wk.heap.size wk wc)
        case first =>
          have ED := hide (unhide BEL).drew
          have DD := hide (Below.refl wk.heap.size wk).drew
          have ZA : Hid ((wk.drew.alloc (.cells #[.slice none 0 0, .slice none 0 0] 24)).heap[wk.heap.size]? = some (.cells #[.slice none 0 0, .slice none 0 0] 24 (0, 0))) := box_at wk.drew _
          first
          | (go_region_held_law (fun Y => (Y.cell? ⟨w2.heap.size, 0, none⟩ = some (.slice ao no co) ∧ Y.cell? ⟨w2.heap.size, 1, none⟩ = some (.slice an nn cn)) ∧ Y.cell? ⟨w3.heap.size, 0, none⟩ = some (.slice at' nt ct) ∧ Y.cell? ⟨w3.heap.size, 1, none⟩ = some (.slice al nl cl))
              (first
                | exact unhide SX _ (unhide ED)
                | exact unhide SX _ ((unhide ED).alloc (unhide ED).size _)
                | exact unhide SX _ (unhide E2)
                | exact unhide SX _ ((unhide E2).alloc (unhide E2).size _)
                | exact unhide SX _ (((unhide E2).setCell (p := ⟨wk.heap.size, 0, none⟩) (unhide BEL).size _).setCell (p := ⟨wk.heap.size, 1, none⟩) (unhide BEL).size _))
              (first
                | (go_at_call 25
                   refine (unhide EN (wk.drew.alloc (.cells #[.slice none 0 0, .slice none 0 0] 24)) ((unhide ED).alloc (unhide ED).size _)).mono ?_
                   rintro e w4 ⟨v4, rfl, ⟨jo, n1, p1, jn, n2, p2, rfl, e1, l1, fj, e2, l2, gj⟩, b4⟩
                   have E2 := hide (((unhide ED).alloc (unhide ED).size (.cells #[.slice none 0 0, .slice none 0 0] 24)).trans (b4.mono ((unhide ED).alloc (unhide ED).size _).size))
                   have D2 := hide (((unhide DD).alloc (unhide DD).size (.cells #[.slice none 0 0, .slice none 0 0] 24)).trans (b4.mono ((unhide DD).alloc (unhide DD).size _).size))
                   have X10 := hide (Below.stay b4 (unhide ZA))
                   obtain ⟨c0, c1⟩ := two_cells (unhide X10)
                   obtain ⟨g0, g1⟩ := two_free (unhide X10)
                   have RES := hide (And.intro e1 (And.intro fj (And.intro e2 gj)))
                   clear b4 e1 fj e2 gj)
                | (go_at_call 25
                   refine (unhide EN wk.drew (unhide ED)).mono ?_
                   rintro e w4 ⟨v4, rfl, ⟨jo, n1, p1, jn, n2, p2, rfl, e1, l1, fj, e2, l2, gj⟩, b4⟩
                   have E2 := hide ((unhide ED).trans (b4.mono (unhide ED).size))
                   have D2 := hide ((unhide DD).trans (b4.mono (unhide DD).size))
                   have RES := hide (And.intro e1 (And.intro fj (And.intro e2 gj)))
                   clear b4 e1 fj e2 gj)))
          | fail
          · go_wp2
            go_meet
            obtain ⟨e1, fj, e2, gj⟩ := unhide RES
            have bb : Below w4.heap.size w4 (w4.alloc (.cells #[.slice jo n1 p1, .slice jn n2 p2] 24)) := (Below.refl _ w4).alloc (Nat.le_refl _) _
            exact ⟨_, jo, n1, p1, jn, n2, p2, rfl, rfl, box_at w4 _, e1, fj.below bb, e2, gj.below bb, (unhide E2).trans (bb.mono (unhide E2).size), (unhide D2).trans (bb.mono (unhide D2).size)⟩
          · go_wp2
            go_meet
            obtain ⟨e1, fj, e2, gj⟩ := unhide RES
            obtain ⟨_, _, rb, rk⟩ := two_end (a := .slice jo n1 p1) (b := .slice jn n2 p2) (unhide X10) (unhide BEL).size (unhide E2)
            obtain ⟨_, _, rb2, _⟩ := two_end (a := .slice jo n1 p1) (b := .slice jn n2 p2) (unhide X10) (Nat.le_refl _) (unhide D2)
            exact ⟨_, jo, n1, p1, jn, n2, p2, rfl, rfl, two_box (unhide X10), e1, fj.far (unhide X10) rk, e2, gj.far (unhide X10) rk, rb, rb2⟩
        case rest =>
        obtain ⟨B, jo, n1, p1, jn, n2, p2, rfl, rfl, xB, e1, fj, e2, gj, b5, b5'⟩ := hcut
        have E5 := hide b5
        have SB := hide (fun (Y : World) (h : Below wc.heap.size wc Y) => And.intro (Below.stay h xB) (And.intro (fj.below h) (gj.below h)))
        have HE1 := hide e1
        have HE2 := hide e2
        clear xB e1 fj e2 gj b5 b5' EN
        obtain ⟨wq, hwq⟩ : ∃ wq, wq = wc := ⟨_, rfl⟩
        subst hwq
        go_upto_region 11 with fail
        go_cut [14, 15] from 45 to 53 (fun s1 s2 wc => ∃ (B : Nat) (jo : Option Addr) (n1 p1 : Nat) (jn : Option Addr) (n2 p2 : Nat), s1 = .pointer (some ⟨B, 0, none⟩) ∧ s2 = .int .i64 (r : Int) ∧ wc.heap[B]? = some (.cells #[.slice jo n1 p1, .slice jn n2 p2] 24 (0, 0)) ∧ eo.length = n1 ∧ Fr wc jo eo ∧ en.length = n2 ∧ Fr wc jn en ∧ Below A1.heap.size A1 wc ∧ Below wq.heap.size wq wc)
        case first =>
          have ED := hide (unhide E5).drew
          have DD := hide (Below.refl wq.heap.size wq).drew
          have ZA : Hid ((wq.drew.alloc (.cells #[.slice none 0 0, .slice none 0 0] 24)).heap[wq.heap.size]? = some (.cells #[.slice none 0 0, .slice none 0 0] 24 (0, 0))) := box_at wq.drew _
          first
          | (go_region_held_law (fun Y => (Y.cell? ⟨w2.heap.size, 0, none⟩ = some (.slice ao no co) ∧ Y.cell? ⟨w2.heap.size, 1, none⟩ = some (.slice an nn cn)) ∧ Y.cell? ⟨w3.heap.size, 0, none⟩ = some (.slice at' nt ct) ∧ Y.cell? ⟨w3.heap.size, 1, none⟩ = some (.slice al nl cl))
              (first
                | exact unhide SX _ (unhide ED)
                | exact unhide SX _ ((unhide ED).alloc (unhide ED).size _)
                | exact unhide SX _ (unhide E2)
                | exact unhide SX _ ((unhide E2).alloc (unhide E2).size _)
                | exact unhide SX _ (((unhide E2).setCell (p := ⟨wq.heap.size, 0, none⟩) (unhide E5).size _).setCell (p := ⟨wq.heap.size, 1, none⟩) (unhide E5).size _))
              (first
                | (go_at_call 26
                   refine (unhide RN (wq.drew.alloc (.cells #[.slice none 0 0, .slice none 0 0] 24)) ((unhide ED).alloc (unhide ED).size _)).mono ?_
                   rintro e w4 ⟨v4, rfl, ⟨jo, n1, p1, jn, n2, p2, rfl, e1, l1, fj, e2, l2, gj⟩, b4⟩
                   have E2 := hide (((unhide ED).alloc (unhide ED).size (.cells #[.slice none 0 0, .slice none 0 0] 24)).trans (b4.mono ((unhide ED).alloc (unhide ED).size _).size))
                   have D2 := hide (((unhide DD).alloc (unhide DD).size (.cells #[.slice none 0 0, .slice none 0 0] 24)).trans (b4.mono ((unhide DD).alloc (unhide DD).size _).size))
                   have X10 := hide (Below.stay b4 (unhide ZA))
                   obtain ⟨c0, c1⟩ := two_cells (unhide X10)
                   obtain ⟨g0, g1⟩ := two_free (unhide X10)
                   have RES := hide (And.intro e1 (And.intro fj (And.intro e2 gj)))
                   clear b4 e1 fj e2 gj)
                | (go_at_call 26
                   refine (unhide RN wq.drew (unhide ED)).mono ?_
                   rintro e w4 ⟨v4, rfl, ⟨jo, n1, p1, jn, n2, p2, rfl, e1, l1, fj, e2, l2, gj⟩, b4⟩
                   have E2 := hide ((unhide ED).trans (b4.mono (unhide ED).size))
                   have D2 := hide ((unhide DD).trans (b4.mono (unhide DD).size))
                   have RES := hide (And.intro e1 (And.intro fj (And.intro e2 gj)))
                   clear b4 e1 fj e2 gj)))
          | fail
          · go_wp2
            go_meet
            obtain ⟨e1, fj, e2, gj⟩ := unhide RES
            have bb : Below w4.heap.size w4 (w4.alloc (.cells #[.slice jo n1 p1, .slice jn n2 p2] 24)) := (Below.refl _ w4).alloc (Nat.le_refl _) _
            exact ⟨_, jo, n1, p1, jn, n2, p2, rfl, rfl, box_at w4 _, e1, fj.below bb, e2, gj.below bb, (unhide E2).trans (bb.mono (unhide E2).size), (unhide D2).trans (bb.mono (unhide D2).size)⟩
          · go_wp2
            go_meet
            obtain ⟨e1, fj, e2, gj⟩ := unhide RES
            obtain ⟨_, _, rb, rk⟩ := two_end (a := .slice jo n1 p1) (b := .slice jn n2 p2) (unhide X10) (unhide E5).size (unhide E2)
            obtain ⟨_, _, rb2, _⟩ := two_end (a := .slice jo n1 p1) (b := .slice jn n2 p2) (unhide X10) (Nat.le_refl _) (unhide D2)
            exact ⟨_, jo, n1, p1, jn, n2, p2, rfl, rfl, two_box (unhide X10), e1, fj.far (unhide X10) rk, e2, gj.far (unhide X10) rk, rb, rb2⟩
        case rest =>
        obtain ⟨C, qo, n3, p3, qn, n4, p4, rfl, rfl, xC, e3, fq, e4, gq, b6, b6'⟩ := hcut
        obtain rfl : n1 = n3 := (unhide HE1).symm.trans e3
        obtain rfl : n2 = n4 := (unhide HE2).symm.trans e4
        obtain ⟨xB, fj, gj⟩ := unhide SB _ b6'
        obtain ⟨c0, c1⟩ := two_cells xB
        obtain ⟨d0, d1⟩ := two_cells xC
        have hn1 : n1 ≤ 1000000 := by
          rw [← unhide HE1]; exact unhide LEO
        have hn2 : n2 ≤ 1000000 := by
          rw [← unhide HE2]; exact unhide LEN
        have SM := hide (rsame_any jo jn qo qn n1 n2 p1 p2 n1 n2 p3 p4 eo en eo en (unhide HE1) (unhide HE2) (unhide HE1) (unhide HE2) hn1 hn2 wc fj.1 gj.1 fq.1 gq.1)
        rw [same_self] at SM
        have E6 := hide b6
        clear xB xC fj gj fq gq e3 e4 b6 b6' SB RN
        go_wp2_with fail
        refine (unhide SM).mono ?_
        rintro e w7 ⟨rfl, b7⟩
        have E7 := hide ((unhide E6).trans (b7.mono (unhide E6).size))
        clear SM b7 c0 c1 d0 d1
        go_wp2
        go_roundw
        case rel => exact ⟨1, by omega, by go_num, unhide E7⟩
        case measure => simp [intOf]
      · obtain ⟨r, hr⟩ : ∃ r, barredOf os ns ls = r := ⟨_, rfl⟩
        obtain ⟨eo, heo⟩ : ∃ eo, entO os ns ls = eo := ⟨_, rfl⟩
        obtain ⟨en, hen⟩ : ∃ en, entN os ns ls = en := ⟨_, rfl⟩
        have EN := hide (fun (Y : World) (h : Below A1.heap.size A1 Y) => enter_any ao an al no nn nl co cn cl os ns ls (unhide ENO) (unhide ENN) (unhide HNL) (by omega) (by omega) (by omega) Y (unhide S1 _ h).1.2.2.1 (unhide S1 _ h).2.2.2)
        have RN := hide (fun (Y : World) (h : Below A1.heap.size A1 Y) => renter_any ao an al no nn nl co cn cl os ns ls (unhide ENO) (unhide ENN) (unhide HNL) (by omega) (by omega) (by omega) Y (unhide S1 _ h).1.2.2.1 (unhide S1 _ h).2.2.2)
        rw [hr, heo, hen] at EN RN
        have hr15 : r ≤ 15 := by
          rw [← hr]; unfold barredOf
          have := check_bound [] ls
          split <;> (try split) <;> (try split) <;> omega
        have LEO : Hid (eo.length ≤ 1000000) := by
          show _ ≤ _
          rw [← heo]; unfold entO; split
          · rw [unhide ENN]; omega
          · simp
        have LEN : Hid (en.length ≤ 1000000) := by
          show _ ≤ _
          rw [← hen]; unfold entN; split
          · rw [unhide HNL]; omega
          · simp
        clear hr heo hen
        obtain ⟨wk, hwk⟩ : ∃ wk, wk = wr := ⟨_, rfl⟩
        subst hwk
        go_upto_region 10 with fail
        go_cut [12, 13] from 36 to 44 (fun s1 s2 wc => ∃ (B : Nat) (jo : Option Addr) (n1 p1 : Nat) (jn : Option Addr) (n2 p2 : Nat), s1 = .pointer (some ⟨B, 0, none⟩) ∧ s2 = .int .i64 (r : Int) ∧ wc.heap[B]? = some (.cells #[.slice jo n1 p1, .slice jn n2 p2] 24 (0, 0)) ∧ eo.length = n1 ∧ Fr wc jo eo ∧ en.length = n2 ∧ Fr wc jn en ∧ Below A1.heap.size A1 wc ∧ Below wk.heap.size wk wc)
        case first =>
          have ED := hide (unhide BEL).drew
          have DD := hide (Below.refl wk.heap.size wk).drew
          have ZA : Hid ((wk.drew.alloc (.cells #[.slice none 0 0, .slice none 0 0] 24)).heap[wk.heap.size]? = some (.cells #[.slice none 0 0, .slice none 0 0] 24 (0, 0))) := box_at wk.drew _
          first
          | (go_region_held_law (fun Y => (Y.cell? ⟨w2.heap.size, 0, none⟩ = some (.slice ao no co) ∧ Y.cell? ⟨w2.heap.size, 1, none⟩ = some (.slice an nn cn)) ∧ Y.cell? ⟨w3.heap.size, 0, none⟩ = some (.slice at' nt ct) ∧ Y.cell? ⟨w3.heap.size, 1, none⟩ = some (.slice al nl cl))
              (first
                | exact unhide SX _ (unhide ED)
                | exact unhide SX _ ((unhide ED).alloc (unhide ED).size _)
                | exact unhide SX _ (unhide E2)
                | exact unhide SX _ ((unhide E2).alloc (unhide E2).size _)
                | exact unhide SX _ (((unhide E2).setCell (p := ⟨wk.heap.size, 0, none⟩) (unhide BEL).size _).setCell (p := ⟨wk.heap.size, 1, none⟩) (unhide BEL).size _))
              (first
                | (go_at_call 25
                   refine (unhide EN (wk.drew.alloc (.cells #[.slice none 0 0, .slice none 0 0] 24)) ((unhide ED).alloc (unhide ED).size _)).mono ?_
                   rintro e w4 ⟨v4, rfl, ⟨jo, n1, p1, jn, n2, p2, rfl, e1, l1, fj, e2, l2, gj⟩, b4⟩
                   have E2 := hide (((unhide ED).alloc (unhide ED).size (.cells #[.slice none 0 0, .slice none 0 0] 24)).trans (b4.mono ((unhide ED).alloc (unhide ED).size _).size))
                   have D2 := hide (((unhide DD).alloc (unhide DD).size (.cells #[.slice none 0 0, .slice none 0 0] 24)).trans (b4.mono ((unhide DD).alloc (unhide DD).size _).size))
                   have X10 := hide (Below.stay b4 (unhide ZA))
                   obtain ⟨c0, c1⟩ := two_cells (unhide X10)
                   obtain ⟨g0, g1⟩ := two_free (unhide X10)
                   have RES := hide (And.intro e1 (And.intro fj (And.intro e2 gj)))
                   clear b4 e1 fj e2 gj)
                | (go_at_call 25
                   refine (unhide EN wk.drew (unhide ED)).mono ?_
                   rintro e w4 ⟨v4, rfl, ⟨jo, n1, p1, jn, n2, p2, rfl, e1, l1, fj, e2, l2, gj⟩, b4⟩
                   have E2 := hide ((unhide ED).trans (b4.mono (unhide ED).size))
                   have D2 := hide ((unhide DD).trans (b4.mono (unhide DD).size))
                   have RES := hide (And.intro e1 (And.intro fj (And.intro e2 gj)))
                   clear b4 e1 fj e2 gj)))
          | fail
          · go_wp2
            go_meet
            obtain ⟨e1, fj, e2, gj⟩ := unhide RES
            have bb : Below w4.heap.size w4 (w4.alloc (.cells #[.slice jo n1 p1, .slice jn n2 p2] 24)) := (Below.refl _ w4).alloc (Nat.le_refl _) _
            exact ⟨_, jo, n1, p1, jn, n2, p2, rfl, rfl, box_at w4 _, e1, fj.below bb, e2, gj.below bb, (unhide E2).trans (bb.mono (unhide E2).size), (unhide D2).trans (bb.mono (unhide D2).size)⟩
          · go_wp2
            go_meet
            obtain ⟨e1, fj, e2, gj⟩ := unhide RES
            obtain ⟨_, _, rb, rk⟩ := two_end (a := .slice jo n1 p1) (b := .slice jn n2 p2) (unhide X10) (unhide BEL).size (unhide E2)
            obtain ⟨_, _, rb2, _⟩ := two_end (a := .slice jo n1 p1) (b := .slice jn n2 p2) (unhide X10) (Nat.le_refl _) (unhide D2)
            exact ⟨_, jo, n1, p1, jn, n2, p2, rfl, rfl, two_box (unhide X10), e1, fj.far (unhide X10) rk, e2, gj.far (unhide X10) rk, rb, rb2⟩
        case rest =>
        obtain ⟨B, jo, n1, p1, jn, n2, p2, rfl, rfl, xB, e1, fj, e2, gj, b5, b5'⟩ := hcut
        have E5 := hide b5
        have SB := hide (fun (Y : World) (h : Below wc.heap.size wc Y) => And.intro (Below.stay h xB) (And.intro (fj.below h) (gj.below h)))
        have HE1 := hide e1
        have HE2 := hide e2
        clear xB e1 fj e2 gj b5 b5' EN
        obtain ⟨wq, hwq⟩ : ∃ wq, wq = wc := ⟨_, rfl⟩
        subst hwq
        go_upto_region 11 with fail
        go_cut [14, 15] from 45 to 53 (fun s1 s2 wc => ∃ (B : Nat) (jo : Option Addr) (n1 p1 : Nat) (jn : Option Addr) (n2 p2 : Nat), s1 = .pointer (some ⟨B, 0, none⟩) ∧ s2 = .int .i64 (r : Int) ∧ wc.heap[B]? = some (.cells #[.slice jo n1 p1, .slice jn n2 p2] 24 (0, 0)) ∧ eo.length = n1 ∧ Fr wc jo eo ∧ en.length = n2 ∧ Fr wc jn en ∧ Below A1.heap.size A1 wc ∧ Below wq.heap.size wq wc)
        case first =>
          have ED := hide (unhide E5).drew
          have DD := hide (Below.refl wq.heap.size wq).drew
          have ZA : Hid ((wq.drew.alloc (.cells #[.slice none 0 0, .slice none 0 0] 24)).heap[wq.heap.size]? = some (.cells #[.slice none 0 0, .slice none 0 0] 24 (0, 0))) := box_at wq.drew _
          first
          | (go_region_held_law (fun Y => (Y.cell? ⟨w2.heap.size, 0, none⟩ = some (.slice ao no co) ∧ Y.cell? ⟨w2.heap.size, 1, none⟩ = some (.slice an nn cn)) ∧ Y.cell? ⟨w3.heap.size, 0, none⟩ = some (.slice at' nt ct) ∧ Y.cell? ⟨w3.heap.size, 1, none⟩ = some (.slice al nl cl))
              (first
                | exact unhide SX _ (unhide ED)
                | exact unhide SX _ ((unhide ED).alloc (unhide ED).size _)
                | exact unhide SX _ (unhide E2)
                | exact unhide SX _ ((unhide E2).alloc (unhide E2).size _)
                | exact unhide SX _ (((unhide E2).setCell (p := ⟨wq.heap.size, 0, none⟩) (unhide E5).size _).setCell (p := ⟨wq.heap.size, 1, none⟩) (unhide E5).size _))
              (first
                | (go_at_call 26
                   refine (unhide RN (wq.drew.alloc (.cells #[.slice none 0 0, .slice none 0 0] 24)) ((unhide ED).alloc (unhide ED).size _)).mono ?_
                   rintro e w4 ⟨v4, rfl, ⟨jo, n1, p1, jn, n2, p2, rfl, e1, l1, fj, e2, l2, gj⟩, b4⟩
                   have E2 := hide (((unhide ED).alloc (unhide ED).size (.cells #[.slice none 0 0, .slice none 0 0] 24)).trans (b4.mono ((unhide ED).alloc (unhide ED).size _).size))
                   have D2 := hide (((unhide DD).alloc (unhide DD).size (.cells #[.slice none 0 0, .slice none 0 0] 24)).trans (b4.mono ((unhide DD).alloc (unhide DD).size _).size))
                   have X10 := hide (Below.stay b4 (unhide ZA))
                   obtain ⟨c0, c1⟩ := two_cells (unhide X10)
                   obtain ⟨g0, g1⟩ := two_free (unhide X10)
                   have RES := hide (And.intro e1 (And.intro fj (And.intro e2 gj)))
                   clear b4 e1 fj e2 gj)
                | (go_at_call 26
                   refine (unhide RN wq.drew (unhide ED)).mono ?_
                   rintro e w4 ⟨v4, rfl, ⟨jo, n1, p1, jn, n2, p2, rfl, e1, l1, fj, e2, l2, gj⟩, b4⟩
                   have E2 := hide ((unhide ED).trans (b4.mono (unhide ED).size))
                   have D2 := hide ((unhide DD).trans (b4.mono (unhide DD).size))
                   have RES := hide (And.intro e1 (And.intro fj (And.intro e2 gj)))
                   clear b4 e1 fj e2 gj)))
          | fail
          · go_wp2
            go_meet
            obtain ⟨e1, fj, e2, gj⟩ := unhide RES
            have bb : Below w4.heap.size w4 (w4.alloc (.cells #[.slice jo n1 p1, .slice jn n2 p2] 24)) := (Below.refl _ w4).alloc (Nat.le_refl _) _
            exact ⟨_, jo, n1, p1, jn, n2, p2, rfl, rfl, box_at w4 _, e1, fj.below bb, e2, gj.below bb, (unhide E2).trans (bb.mono (unhide E2).size), (unhide D2).trans (bb.mono (unhide D2).size)⟩
          · go_wp2
            go_meet
            obtain ⟨e1, fj, e2, gj⟩ := unhide RES
            obtain ⟨_, _, rb, rk⟩ := two_end (a := .slice jo n1 p1) (b := .slice jn n2 p2) (unhide X10) (unhide E5).size (unhide E2)
            obtain ⟨_, _, rb2, _⟩ := two_end (a := .slice jo n1 p1) (b := .slice jn n2 p2) (unhide X10) (Nat.le_refl _) (unhide D2)
            exact ⟨_, jo, n1, p1, jn, n2, p2, rfl, rfl, two_box (unhide X10), e1, fj.far (unhide X10) rk, e2, gj.far (unhide X10) rk, rb, rb2⟩
        case rest =>
        obtain ⟨C, qo, n3, p3, qn, n4, p4, rfl, rfl, xC, e3, fq, e4, gq, b6, b6'⟩ := hcut
        obtain rfl : n1 = n3 := (unhide HE1).symm.trans e3
        obtain rfl : n2 = n4 := (unhide HE2).symm.trans e4
        obtain ⟨xB, fj, gj⟩ := unhide SB _ b6'
        obtain ⟨c0, c1⟩ := two_cells xB
        obtain ⟨d0, d1⟩ := two_cells xC
        have hn1 : n1 ≤ 1000000 := by
          rw [← unhide HE1]; exact unhide LEO
        have hn2 : n2 ≤ 1000000 := by
          rw [← unhide HE2]; exact unhide LEN
        have SM := hide (rsame_any jo jn qo qn n1 n2 p1 p2 n1 n2 p3 p4 eo en eo en (unhide HE1) (unhide HE2) (unhide HE1) (unhide HE2) hn1 hn2 wc fj.1 gj.1 fq.1 gq.1)
        rw [same_self] at SM
        have E6 := hide b6
        clear xB xC fj gj fq gq e3 e4 b6 b6' SB RN
        go_wp2_with fail
        refine (unhide SM).mono ?_
        rintro e w7 ⟨rfl, b7⟩
        have E7 := hide ((unhide E6).trans (b7.mono (unhide E6).size))
        clear SM b7 c0 c1 d0 d1
        go_wp2
        go_roundw
        case rel => exact ⟨2, by omega, by go_num, unhide E7⟩
        case measure => simp [intOf]
      · obtain ⟨r, hr⟩ : ∃ r, leaveOf os = r := ⟨_, rfl⟩
        obtain ⟨en, hen⟩ : ∃ en, leaveN os ns = en := ⟨_, rfl⟩
        have LV := hide (fun (Y : World) (h : Below A1.heap.size A1 Y) => leave_any ao an no nn co cn os ns (unhide ENO) (unhide ENN) (by omega) Y (unhide S1 _ h).1.2.2.1)
        have RV := hide (fun (Y : World) (h : Below A1.heap.size A1 Y) => rleave_any ao an no nn co cn os ns (unhide ENO) (unhide ENN) (by omega) Y (unhide S1 _ h).1.2.2.1)
        rw [hr, hen] at LV RV
        have LEN : Hid (en.length ≤ 1000000) := by
          show _ ≤ _
          rw [← hen]; unfold leaveN; split
          · simp
          · rw [unhide ENN]; omega
        clear hr hen
        obtain ⟨c0, c1⟩ := two_cells (unhide S1 _ (unhide BEL)).1.1
        go_wp2_with fail
        refine (unhide LV _ (unhide BEL)).mono ?_
        rintro e w4 ⟨v4, rfl, ⟨jo, n1, p1, jn, n2, p2, rfl, e1, _, fj, e2, _, gj⟩, b4⟩
        simp only [List.length_nil] at e1
        subst e1
        obtain ⟨A2, hA2, bA2, xA2, -⟩ := boxed w4 (.slice jo 0 p1) (.slice jn n2 p2)
        have b42 := b4.trans (bA2.mono b4.size)
        have E2 := hide ((unhide BEL).trans (b42.mono (unhide BEL).size))
        have SB := hide (fun (Y : World) (h : Below A2.heap.size A2 Y) => And.intro (Below.stay h xA2) ((gj.below bA2).below h))
        have HA2 := hide hA2
        have HE2 := hide e2
        clear c0 c1 hA2 bA2 xA2 b42 b4 fj gj e2 LV
        go_upto_region 15 with fail
        rw [unhide HA2]
        clear HA2
        obtain ⟨c0, c1⟩ := two_cells (unhide S1 _ (unhide E2)).1.1
        go_wp2_with fail
        refine (unhide RV _ (unhide E2)).mono ?_
        rintro e w5 ⟨v5, rfl, ⟨qo, n3, p3, qn, n4, p4, rfl, e3, _, fq, e4, _, gq⟩, b5⟩
        simp only [List.length_nil] at e3
        subst e3
        obtain rfl : n2 = n4 := (unhide HE2).symm.trans e4
        obtain ⟨A3, hA3, bA3, xA3, -⟩ := boxed w5 (.slice qo 0 p3) (.slice qn n2 p4)
        have b53 := b5.trans (bA3.mono b5.size)
        have E3 := hide ((unhide E2).trans (b53.mono (unhide E2).size))
        have D3 := hide b53
        have GQ := hide (gq.below bA3)
        have XA3 := hide xA3
        have HA3 := hide hA3
        clear c0 c1 hA3 bA3 xA3 b53 b5 fq gq e4 RV
        go_upto_region 16 with fail
        rw [unhide HA3]
        clear HA3
        obtain ⟨x2, g2⟩ := unhide SB _ (unhide D3)
        obtain ⟨c0, c1⟩ := two_cells x2
        obtain ⟨d0, d1⟩ := two_cells (unhide XA3)
        have hn2 : n2 ≤ 1000000 := by
          rw [← unhide HE2]; exact unhide LEN
        have SM := hide (rsame_any jo jn qo qn 0 n2 p1 p2 0 n2 p3 p4 [] en [] en rfl (unhide HE2) rfl (unhide HE2) (by decide) hn2 A3 (IntsR.nil _ _) g2.1 (IntsR.nil _ _) (unhide GQ).1)
        rw [same_self] at SM
        clear x2 g2
        go_wp2_with fail
        refine (unhide SM).mono ?_
        rintro e w7 ⟨rfl, b7⟩
        have E7 := hide ((unhide E3).trans (b7.mono (unhide E3).size))
        clear SM b7 c0 c1 d0 d1
        go_wp2
        go_ret
        exact ⟨rfl, (unhide BA1).trans ((unhide E7).mono (unhide BA1).size)⟩
end Go.Proofs.Ythemdkfmlkaifaa

/- HistCuts: the walk. -/
import Derived.Test.YthebgkkdkhlbbabHCutsA
import Derived.Deep.RegionHeld3
import Derived.Deep.DrawnRows
namespace Go.Proofs.Ythebgkkdkhlbbab
open Go.RowKit Go.Maps
attribute [local go_sem ↓] Go.wp_at_zero Go.wp_at_succ

def six (Y : World) (g : Nat) (mv : Value) : Prop := Y.cell? ⟨g, 0, none⟩ = some (.int .i64 1) ∧ Y.cell? ⟨g, 1, none⟩ = some (.int .i64 9) ∧ Y.cell? ⟨g, 2, none⟩ = some (.int .i64 9) ∧ Y.cell? ⟨g, 3, none⟩ = some (.string ⟨#[]⟩) ∧ Y.cell? ⟨g, 4, none⟩ = some mv ∧ Y.cell? ⟨g, 5, none⟩ = some (.int .i64 0)
theorem six_of {Y : World} {g : Nat} {mv : Value} {fr : Nat × Nat} {t : TypeId} (h : Y.heap[g]? = some (.cells #[.int .i64 1, .int .i64 9, .int .i64 9, .string ⟨#[]⟩, mv, .int .i64 0] t fr)) : six Y g mv :=
  ⟨(cell_of_block h).trans rfl, (cell_of_block h).trans rfl, (cell_of_block h).trans rfl, (cell_of_block h).trans rfl, (cell_of_block h).trans rfl, (cell_of_block h).trans rfl⟩

set_option maxRecDepth 1000000 in
set_option maxHeartbeats 16000000 in
theorem cuts_walk (ao : Option Addr) (n cap : Nat) (ys : List Int) (hn : ys.length = n) (x1 x2 : Int) (w : World) (ha : IntsR w ao ys) :
    Calls Try.prog 3 #[.slice ao n cap, .int .i64 x1, .int .i64 x2] w fun e w' => e = .returned (.bool true) ∧ Below w.heap.size w w' := by
  have KN := hide (hknown_any w)
  have HA := hide ha
  have HN := hide hn
  clear ha hn
  go_enter Try.func3, Try.ntmps3
  go_wp2_with fail
  refine (unhide KN).mono ?_
  rintro e w1 ⟨rfl, b1⟩
  have B1 := hide b1
  have GR := hide (grown_any ao n cap ys (unhide HN) w1 ((unhide HA).below b1))
  clear b1 KN
  go_wp2_with fail
  refine (unhide GR).mono ?_
  rintro e w2 ⟨D, rs, t, rfl, hs, hd, hg, hl, b2⟩
  have hl40 : rs.length ≤ 40 := by omega
  have fit : Fit 0 rs := ⟨by decide, by decide, by omega⟩
  have HS := hide hs
  have HD : Hid (∀ j, D j → w.heap.size ≤ j) := fun j hj => Nat.le_trans (unhide B1).size (hd j hj)
  have HG := hide hg
  have B2 := hide (below_far (unhide B1) b2)
  obtain ⟨p, hp⟩ : ∃ p, w1.heap.size = p := ⟨_, rfl⟩
  rw [hp] at HS
  have LA := hide (fun Y (h : Below w2.heap.size w2 Y) => last_any ((unhide HS).below h) fit)
  have FIT := hide fit
  have L0 := hide (unhide LA w2 (Below.refl _ _))
  clear hs hd hg hl b2 fit GR
  go_wp2_with fail
  refine (unhide L0).mono ?_
  rintro e w3 ⟨rfl, b3⟩
  have B3 := hide b3
  clear b3 L0
  by_cases hz : rs.length = 0
  · have hz2 : (0 : Int) + (rs.length : Int) = 0 := by omega
    rw [hz2]
    go_wp2
    go_ret
    exact ⟨rfl, below_far (unhide B2) (unhide B3)⟩
  · obtain ⟨m, hm⟩ : ∃ m, rs.length = m + 1 := ⟨rs.length - 1, by omega⟩
    obtain ⟨r, hr⟩ : ∃ r, rs[m]? = some r := ⟨_, List.getElem?_eq_getElem (by omega)⟩
    have hm40 : m < 40 := by omega
    have e1 : (0 : Int) + (rs.length : Int) = (m : Int) + 1 := by omega
    rw [e1]
    rw [e1] at LA
    have gz : ((m : Int) + 1 == 0) = false := by rw [beq_eq_false_iff_ne]; omega
    have HM := hide hm
    have HR := hide hr
    have hs3 := (unhide HS).below (unhide B3)
    have FR := hide (from_any hs3 (unhide FIT) 1)
    rw [show aheadOf 0 rs 1 = 0 by unfold aheadOf; rw [if_neg (by decide)]; simp] at FR
    simp only [List.drop_zero] at FR
    have LT3 := hide hs3.lt
    clear hs3 hz e1 hl40
    go_wp2_with fail
    refine (unhide FR).mono ?_
    rintro e w4 ⟨tv, ev, N4, rfl, i4, e4, b4⟩
    obtain ⟨at4, ct4, rfl, hfr4, hct4, -⟩ := i4.slice
    obtain ⟨ae4, ce4, rfl, hce4, -⟩ := e4.slice
    have it4 : InF (fun j => w3.heap.size ≤ j ∧ j < w4.heap.size) w4 at4 (rs.map (·.1)) := i4.inF.mono (fun j hj => i4.lt j hj)
    have et4 := e4.esR
    rw [List.length_map, unhide HM] at hct4 hce4
    simp only [List.length_map, unhide HM]
    obtain ⟨ad4, rfl, -, hcm⟩ := it4 m (by rw [List.length_map, unhide HM]; omega)
    rw [show (rs.map (·.1)).getD m 0 = r.1 by rw [List.getD_eq_getElem?_getD, List.getElem?_map, unhide HR]; rfl] at hcm
    obtain ⟨g4, o4, -, -, rfl, -⟩ := et4.at (k := 0) (e := (rs.map (·.2))[0]'(by rw [List.length_map, unhide HM]; omega)) (List.getElem?_eq_getElem _)
    have IT4 := hide it4
    have ET4 := hide et4
    have CM := hide hcm
    have W34 := hide b4.size
    have B4 := hide (below_far (unhide B3) b4)
    have L4 := hide (unhide LA w4 (unhide B4))
    have q0 := Int.emod_nonneg x1 (show (m : Int) + 1 ≠ 0 by omega)
    have q1 := Int.emod_lt_of_pos x1 (show (0 : Int) < (m : Int) + 1 by omega)
    obtain ⟨a, haa⟩ : ∃ a : Nat, x1 % ((m : Int) + 1) = (a : Int) := ⟨(x1 % ((m : Int) + 1)).toNat, by omega⟩
    have WA := hide (fun Y => within_any x1 ((m : Int) + 1) Y (by omega) (by omega))
    rw [haa] at WA
    have ham : a < m + 1 := by omega
    clear i4 e4 it4 et4 hcm b4 hfr4 q0 q1 haa FR
    go_wp2_with fail
    refine (unhide L4).mono ?_
    rintro e w5 ⟨rfl, b5⟩
    have C5 := hide b5
    have B5 := hide (below_far (unhide B4) b5)
    have W5 := hide (unhide WA w5)
    clear b5 L4 WA
    go_wp2_with fail
    refine (unhide W5).mono ?_
    rintro e z ⟨rfl, hw⟩
    replace hw := hw.symm
    subst hw
    clear W5
    have c0 := Int.emod_nonneg x2 (show (5 : Int) ≠ 0 by decide)
    have c1 := Int.emod_lt_of_pos x2 (show (0 : Int) < 5 by decide)
    obtain ⟨c, hc⟩ : ∃ c, x2 % 5 = c := ⟨_, rfl⟩
    have WC := hide (within_any x2 5 w5.drew (by decide) (by decide))
    rw [hc] at WC c0 c1
    have rle := (unhide HG).lo r (List.mem_of_getElem? (unhide HR))
    have thi := (unhide HG).hi
    rw [unhide HM] at thi
    obtain ⟨tl, htl⟩ : ∃ tl, r.1 = tl := ⟨_, rfl⟩
    rw [htl] at CM rle
    have k5 : w5.drew.cell? (ad4.add m) = some (.int .i64 tl) := by show w5.cell? _ = _; rw [(unhide C5).cell (blk_lt (unhide CM))]; exact unhide CM
    have wt1 : IntKind.i64.wrap (tl + 1) = tl + 1 := IntWalk.i64_in _ (by omega)
    have wt2 : IntKind.i64.wrap (tl + 1 + c) = tl + 1 + c := IntWalk.i64_in _ (by omega)
    have wm1 : IntKind.i64.wrap (m : Int) = (m : Int) := IntWalk.i64_in _ (by omega)
    have hm0 : (m : Int) < (m : Int) + 1 := by omega
    obtain ⟨top, htop⟩ : ∃ top, tl + 1 + c = top := ⟨_, rfl⟩
    have htt : r.1 < top := by omega
    have htb : top ≤ 1000 ∧ 1 ≤ top := by omega
    have HTT := hide htt
    rw [htop] at wt2
    have wt3 : IntKind.i64.wrap (tl + 1 + c) = top := by rw [htop]; exact wt2
    clear hc rle thi htl htt
    go_upto_region 10 with fail
    go_cut [10] (fun v10 wc => v10 = .int .i64 top ∧ Below w5.heap.size w5 wc)
    case first =>
      go_region_with (go_at_call 10; refine (unhide WC).mono ?_; rintro e z ⟨rfl, hw⟩; replace hw := hw.symm; subst hw)
      all_goals go_wp2_with fail
      all_goals go_meet
      all_goals exact ⟨rfl, (Below.refl _ w5).drew⟩
    case rest =>
      obtain ⟨rfl, hbc⟩ := hcut
      obtain ⟨X, hX⟩ : ∃ X, wc.alloc boxE = X := ⟨_, rfl⟩
      have bX : Below wc.heap.size wc X := by rw [← hX]; exact (Below.refl _ wc).alloc (Nat.le_refl _) _
      have xX : X.heap[wc.heap.size]? = some boxE := by rw [← hX]; exact box_at _ _
      have c5X := below_far (unhide C5) (below_far hbc bX)
      have b2X := below_far (unhide B4) c5X
      have hsX := (unhide HS).below b2X
      have itX := (unhide IT4).below c5X
      have etX := (unhide ET4).below c5X
      have gd : ∀ j, (w3.heap.size ≤ j ∧ j < w4.heap.size) → ¬ D j := fun j hj x => by have := unhide LT3 j x; omega
      have sX : w4.heap.size ≤ X.heap.size := c5X.size
      obtain ⟨eb, heb⟩ : ∃ eb, wc.heap.size = eb := ⟨_, rfl⟩
      have deb : ∀ j, D j → j < eb := fun j x => by have := unhide LT3 j x; have := (unhide B4).size; have := (unhide C5).size; have := hbc.size; have := (unhide W34); omega
      have DEB := hide deb
      rw [heb] at xX
      have HXX := hide hsX
      have EBX := hide xX
      have ITX := hide itX
      have ETX := hide etX
      have GD := hide gd
      have SX4 := hide sX
      have BX := hide (below_far (unhide B2) b2X)
      have HX := hide hX
      have T0 := hide (fun Y (h : Below X.heap.size X Y) => term_any (hsX.below h) (unhide FIT) (a : Int))
      have L1 := hide (fun Y (h : Below X.heap.size X Y) => last_any (hsX.below h) (unhide FIT))
      rw [show (0 : Int) + (rs.length : Int) = (m : Int) + 1 by rw [unhide HM]; omega] at L1
      clear hbc bX xX c5X b2X hsX itX etX gd sX hX WC k5 wt1 wt2 wt3 wm1 CM LA HS IT4 ET4 B4 B5 C5
      go_upto_region 12 with fail
      rw [unhide HX]
      clear HX heb
      have hT := (unhide HG).termLe (unhide HM) (unhide HR) (a : Int)
      obtain ⟨T, hTe⟩ : ∃ T, termOf 0 rs (a : Int) = T := ⟨_, rfl⟩
      rw [hTe] at T0 hT
      have HTE := hide hTe
      have hTb : 0 ≤ T ∧ T ≤ 1000 := by have := unhide HTT; omega
      have wT : IntKind.i64.wrap (T + 1) = T + 1 := IntWalk.i64_in _ (by omega)
      have wtop : IntKind.i64.wrap (top + 1) = top + 1 := IntWalk.i64_in _ (by omega)
      have wa1 : IntKind.i64.wrap ((a : Int) + 1) = (a : Int) + 1 := IntWalk.i64_in _ (by omega)
      clear hT hTe
      go_upto_if 50 with fail
      go_cut [13] (fun _ wd => PP w.heap.size D X wd p rs)
      case first =>
        by_cases h0 : 0 < a
        · have g0 : (0 : Int) < (a : Int) := by omega
          have PU := hide (fun (Y : World) (bi be : Nat) (h : Below X.heap.size X Y) (hI : Y.heap[bi]? = some (boxI (top + 1))) (hE : Y.heap[be]? = some boxE) (l1 : X.heap.size ≤ bi) (l2 : X.heap.size ≤ be) => put_one (low := w.heap.size) (unhide HXX) (unhide HD) (unhide BX).size (by rw [unhide HM]; omega) h (a : Int) (T + 1) (top + 1) hI hE l1 l2)
          have hno := cuts_no (unhide HG) (unhide HM) (unhide HR) ham h0 (unhide HTT)
          rw [unhide HTE] at hno
          rw [hno, show putRows 0 rs (a : Int) (T + 1) [top + 1] [e9] = rs by unfold putRows; rw [if_neg (by rw [show [e9].length = 1 from rfl, hno]; decide)]] at PU
          clear hno
          go_upto_region 13 with fail
          go_cut [13] (fun v13 wd => v13 = .int .i64 2 ∧ PP w.heap.size D X wd p rs)
          case first =>
            have EZ := hide (Below.refl X.heap.size X).drew
            have KI : Hid True := hide True.intro
            have KE : Hid True := hide True.intro
            have SXX := hide (fun (Y : World) (h : Below X.heap.size X Y) => six_of (mv := .slice none 0 0) (Below.stay h (unhide EBX)))
            go_region_held3 (fun Y => Y.cell? ⟨eb, 0, none⟩ = some (.int .i64 1) ∧ Y.cell? ⟨eb, 1, none⟩ = some (.int .i64 9) ∧ Y.cell? ⟨eb, 2, none⟩ = some (.int .i64 9) ∧ Y.cell? ⟨eb, 3, none⟩ = some (.string ⟨#[]⟩) ∧ Y.cell? ⟨eb, 4, none⟩ = some (.slice none 0 0) ∧ Y.cell? ⟨eb, 5, none⟩ = some (.int .i64 0))
              (first
                | exact unhide S9
                | exact unhide SXX _ (unhide EZ)
                | exact unhide SXX _ ((unhide EZ).alloc (unhide EZ).size _)
                | exact unhide SXX _ (((unhide EZ).alloc (unhide EZ).size _).alloc ((unhide EZ).alloc (unhide EZ).size _).size _)
                | fail)
              (first
                | (go_at_call 12
                   refine (unhide T0 _ (by first | exact unhide EZ | exact (unhide EZ).alloc (unhide EZ).size _ | exact ((unhide EZ).alloc (unhide EZ).size _).alloc ((unhide EZ).alloc (unhide EZ).size _).size _ | fail)).mono ?_
                   rintro e zz ⟨rfl, bz⟩
                   have K0 := hide (fun (b : Nat) (o : Obj) (h : _) => Below.stay bz (k := b) (o := o) h)
                   have E0 : Hid (Below X.heap.size X zz) := by
                     first
                       | exact below_far (unhide EZ) bz
                       | exact below_far ((unhide EZ).alloc (unhide EZ).size _) bz
                       | exact below_far (((unhide EZ).alloc (unhide EZ).size _).alloc ((unhide EZ).alloc (unhide EZ).size _).size _) bz
                       | fail
                   clear EZ bz; have EZ := E0; clear E0)
                | (go_at_call 11
                   refine (unhide PU _ _ _
                     (by first | exact unhide EZ | exact (unhide EZ).alloc (unhide EZ).size _ | exact ((unhide EZ).alloc (unhide EZ).size _).alloc ((unhide EZ).alloc (unhide EZ).size _).size _ | fail)
                     (by first | exact box_at _ _ | exact (box_two _ _ _).1 | exact (box_two _ _ _).2.1 | exact unhide K0 _ _ (box_at _ _) | exact unhide K0 _ _ (box_two _ _ _).1 | exact unhide K0 _ _ (box_two _ _ _).2.1 | exact Below.stay ((Below.refl _ _).alloc (Nat.le_refl _) _) (unhide K0 _ _ (box_at _ _)) | fail)
                     (by first | exact box_at _ _ | exact (box_two _ _ _).1 | exact (box_two _ _ _).2.1 | exact unhide K0 _ _ (box_at _ _) | exact unhide K0 _ _ (box_two _ _ _).1 | exact unhide K0 _ _ (box_two _ _ _).2.1 | exact Below.stay ((Below.refl _ _).alloc (Nat.le_refl _) _) (unhide K0 _ _ (box_at _ _)) | fail)
                     (by have := (unhide EZ).size; first | omega | (simp; omega) | fail)
                     (by have := (unhide EZ).size; first | omega | (simp; omega) | fail)).mono ?_
                   rintro e w9 ⟨rfl, h9⟩
                   have S9 := hide (six_of (mv := .slice none 0 0) ((show Kp _ X w9 from h9.choose_spec.2.2.2).block (unhide EBX) (fun x => by have := unhide DEB _ x; omega)))
                   have P9 := hide h9
                   clear h9))
            all_goals go_wp2_with fail
            all_goals go_meet
            all_goals exact ⟨rfl, unhide P9⟩
          case rest =>
            obtain ⟨rfl, D', hsd, hlow', hsub', kpd⟩ := hcut
            have L2 := hide (last_any hsd (unhide FIT))
            rw [show (0 : Int) + (rs.length : Int) = (m : Int) + 1 by rw [unhide HM]; omega] at L2
            have ebd := kpd.block (unhide EBX) (fun x => by have := unhide DEB _ x; omega)
            have itd := (unhide ITX).kp kpd (unhide GD)
            have etd := (unhide ETX).kp kpd (unhide GD)
            have bd : Below w.heap.size w wc := (unhide BX).trans (kpd.below (unhide HD) (unhide BX).size)
            have gdd : ∀ j, (w3.heap.size ≤ j ∧ j < w4.heap.size) → ¬ D' j := fun j hj x => by
              rcases hsub' j x with y | y
              · exact unhide GD j hj y
              · have := unhide SX4; omega
            have debd : ∀ j, D' j → j ≠ eb := fun j x e => by
              rcases hsub' j x with y | y
              · have := unhide DEB j y; omega
              · have := heap_lt (unhide EBX); omega
            have HSD := hide hsd
            have EBD := hide ebd
            have ITD := hide itd
            have ETD := hide etd
            have BD := hide bd
            have GDD := hide gdd
            have DBD := hide debd
            have LWD := hide hlow'
            have SUB := hide hsub'
            have KPD := hide kpd
            have S4D : Hid (w4.heap.size ≤ wc.heap.size) := Nat.le_trans (unhide SX4) kpd.size
            clear hsd hlow' hsub' kpd ebd itd etd bd gdd debd L1 T0 PU HXX EBX ITX ETX BX GD SX4
            go_wp2_with fail
            refine (unhide L2).mono ?_
            rintro e XX ⟨rfl, bxx⟩
            have FIN : Hid (PP w.heap.size D X XX p rs) := ⟨D', (unhide HSD).below bxx, unhide LWD, unhide SUB, (unhide KPD).far bxx⟩
            clear bxx
            go_wp2_with fail
            go_meet
            exact unhide FIN
        · have g0 : ¬ (0 : Int) < (a : Int) := by omega
          have FIN : Hid (PP w.heap.size D X X p rs) := ⟨D, unhide HXX, unhide HD, fun j hj => Or.inl hj, Kp.refl _ _⟩
          go_wp2_with fail
          go_meet
          exact unhide FIN
      case rest =>
        obtain ⟨D', hsd, hlow', hsub', kpd⟩ := hcut
        obtain ⟨XX, hXX⟩ : ∃ XX, XX = wc := ⟨_, rfl⟩
        subst hXX
        have EBY := hide (kpd.block (unhide EBX) (fun x => by have := unhide DEB _ x; omega))
        have ITY := hide ((unhide ITX).kp kpd (unhide GD))
        have ETY := hide ((unhide ETX).kp kpd (unhide GD))
        have BXX : Hid (Below w.heap.size w XX) := (unhide BX).trans (kpd.below (unhide HD) (unhide BX).size)
        have GDD : Hid (∀ j, (w3.heap.size ≤ j ∧ j < w4.heap.size) → ¬ D' j) := fun j hj x => by
          rcases hsub' j x with y | y
          · exact unhide GD j hj y
          · have := unhide SX4; omega
        have DBD : Hid (∀ j, D' j → j ≠ eb) := fun j x e => by
          rcases hsub' j x with y | y
          · have := unhide DEB j y; omega
          · have := heap_lt (unhide EBX); omega
        have HSX := hide hsd
        have LWD := hide hlow'
        have S4Y : Hid (w4.heap.size ≤ XX.heap.size) := Nat.le_trans (unhide SX4) kpd.size
        clear hsd hlow' hsub' kpd L1 T0 HXX EBX ITX ETX BX GD SX4
        have T0 := hide (fun Y (h : Below XX.heap.size XX Y) => term_any ((unhide HSX).below h) (unhide FIT) (a : Int))
        rw [unhide HTE] at T0
        have PU := hide (fun (Y : World) (bi be : Nat) (h : Below XX.heap.size XX Y) (hI : Y.heap[bi]? = some (boxI top)) (hE : Y.heap[be]? = some boxE) (l1 : XX.heap.size ≤ bi) (l2 : XX.heap.size ≤ be) => put_one (low := w.heap.size) (unhide HSX) (unhide LWD) (unhide BXX).size (by rw [unhide HM]; omega) h (a : Int) T top hI hE l1 l2)
        obtain ⟨hno, hrw⟩ := cuts_yes (unhide HG) (unhide HM) hm40 (unhide HR) ham (unhide HTT) e9
        rw [unhide HTE] at hno hrw
        rw [hno, show putN 0 rs (a : Int) T [top] 1 = (a : Int) + 1 by unfold putN; rw [if_pos hno]; rfl, hrw] at PU
        obtain ⟨R2, hR2⟩ : ∃ R2, rs.take a ++ [(top, e9)] = R2 := ⟨_, rfl⟩
        rw [hR2] at PU
        have hl2 : R2.length = a + 1 := by rw [← hR2, List.length_append, List.length_take, unhide HM, List.length_singleton]; omega
        have hg2 : R2[a]? = some (top, e9) := by
          rw [← hR2, List.getElem?_append_right (by rw [List.length_take]; omega), List.length_take, unhide HM, show a - min a (m + 1) = 0 by omega]; rfl
        have htk1 : (R2.map (·.1)).take a = (rs.map (·.1)).take a := by rw [← hR2, List.map_append, List.take_append_of_le_length (by rw [List.length_map, List.length_take, unhide HM]; omega), ← List.map_take, List.take_take, Nat.min_self, List.map_take]
        have htk2 : (R2.map (·.2)).take a = (rs.map (·.2)).take a := by rw [← hR2, List.map_append, List.take_append_of_le_length (by rw [List.length_map, List.length_take, unhide HM]; omega), ← List.map_take, List.take_take, Nat.min_self, List.map_take]
        have HL2 := hide hl2
        have HG2 := hide hg2
        have TK := hide (And.intro htk1 htk2)
        clear hno hrw hR2 hl2 hg2 htk1 htk2
        go_upto_region 16 with fail
        go_cut [14, 15] (fun v14 v15 wd => v14 = .int .i64 ((a : Int) + 1) ∧ v15 = .int .i64 0 ∧ PP w.heap.size D' XX wd p R2)
        case first =>
          have EZ := hide (Below.refl XX.heap.size XX).drew
          have KI : Hid True := hide True.intro
          have KE : Hid True := hide True.intro
          have SXX := hide (fun (Y : World) (h : Below XX.heap.size XX Y) => six_of (mv := .slice none 0 0) (Below.stay h (unhide EBY)))
          go_region_held3 (fun Y => Y.cell? ⟨eb, 0, none⟩ = some (.int .i64 1) ∧ Y.cell? ⟨eb, 1, none⟩ = some (.int .i64 9) ∧ Y.cell? ⟨eb, 2, none⟩ = some (.int .i64 9) ∧ Y.cell? ⟨eb, 3, none⟩ = some (.string ⟨#[]⟩) ∧ Y.cell? ⟨eb, 4, none⟩ = some (.slice none 0 0) ∧ Y.cell? ⟨eb, 5, none⟩ = some (.int .i64 0))
            (first
              | exact unhide S9
              | exact unhide SXX _ (unhide EZ)
              | exact unhide SXX _ ((unhide EZ).alloc (unhide EZ).size _)
              | exact unhide SXX _ (((unhide EZ).alloc (unhide EZ).size _).alloc ((unhide EZ).alloc (unhide EZ).size _).size _)
              | fail)
            (first
              | (go_at_call 12
                 refine (unhide T0 _ (by first | exact unhide EZ | exact (unhide EZ).alloc (unhide EZ).size _ | exact ((unhide EZ).alloc (unhide EZ).size _).alloc ((unhide EZ).alloc (unhide EZ).size _).size _ | fail)).mono ?_
                 rintro e zz ⟨rfl, bz⟩
                 have K0 := hide (fun (b : Nat) (o : Obj) (h : _) => Below.stay bz (k := b) (o := o) h)
                 have E0 : Hid (Below XX.heap.size XX zz) := by
                   first
                     | exact below_far (unhide EZ) bz
                     | exact below_far ((unhide EZ).alloc (unhide EZ).size _) bz
                     | exact below_far (((unhide EZ).alloc (unhide EZ).size _).alloc ((unhide EZ).alloc (unhide EZ).size _).size _) bz
                     | fail
                 clear EZ bz; have EZ := E0; clear E0)
              | (go_at_call 11
                 refine (unhide PU _ _ _
                   (by first | exact unhide EZ | exact (unhide EZ).alloc (unhide EZ).size _ | exact ((unhide EZ).alloc (unhide EZ).size _).alloc ((unhide EZ).alloc (unhide EZ).size _).size _ | fail)
                   (by first | exact box_at _ _ | exact (box_two _ _ _).1 | exact (box_two _ _ _).2.1 | exact unhide K0 _ _ (box_at _ _) | exact unhide K0 _ _ (box_two _ _ _).1 | exact unhide K0 _ _ (box_two _ _ _).2.1 | exact Below.stay ((Below.refl _ _).alloc (Nat.le_refl _) _) (unhide K0 _ _ (box_at _ _)) | fail)
                   (by first | exact box_at _ _ | exact (box_two _ _ _).1 | exact (box_two _ _ _).2.1 | exact unhide K0 _ _ (box_at _ _) | exact unhide K0 _ _ (box_two _ _ _).1 | exact unhide K0 _ _ (box_two _ _ _).2.1 | exact Below.stay ((Below.refl _ _).alloc (Nat.le_refl _) _) (unhide K0 _ _ (box_at _ _)) | fail)
                   (by have := (unhide EZ).size; first | omega | (simp; omega) | fail)
                   (by have := (unhide EZ).size; first | omega | (simp; omega) | fail)).mono ?_
                 rintro e w9 ⟨rfl, h9⟩
                 have S9 := hide (six_of (mv := .slice none 0 0) ((show Kp _ XX w9 from h9.choose_spec.2.2.2).block (unhide EBY) (fun x => unhide DBD _ x rfl)))
                 have P9 := hide h9
                 clear h9))
          all_goals go_wp2_with fail
          all_goals go_meet
          all_goals exact ⟨rfl, rfl, unhide P9⟩
        case rest =>
          obtain ⟨rfl, rfl, D3, hs3, hlow3, hsub3, kp3⟩ := hcut
          obtain ⟨YY, hYY⟩ : ∃ YY, YY = wc := ⟨_, rfl⟩
          subst hYY
          have eby := kp3.block (unhide EBY) (fun x => unhide DBD _ x rfl)
          have ity := (unhide ITY).kp kp3 (unhide GDD)
          have ety := (unhide ETY).kp kp3 (unhide GDD)
          have byy : Below w.heap.size w YY := (unhide BXX).trans (kp3.below (unhide LWD) (unhide BXX).size)
          have fit3 : Fit 0 R2 := ⟨by decide, by decide, by rw [unhide HL2]; omega⟩
          have F6 := hide (from_any hs3 fit3 1)
          rw [show aheadOf 0 R2 1 = 0 by unfold aheadOf; rw [if_neg (by decide)]; simp] at F6
          simp only [List.drop_zero] at F6
          have E6 := hide (fun Y (h : Below YY.heap.size YY Y) => entry_any (hs3.below h) fit3 ((a : Int) + 1))
          have hrow : rowAt 0 R2 ((a : Int) + 1) = some (top, e9) := by unfold rowAt; rw [if_pos (by omega), show ((a : Int) + 1 - 0 - 1).toNat = a by omega]; exact unhide HG2
          rw [show entOf 0 R2 ((a : Int) + 1) = e9 by unfold entOf; rw [hrow], hrow] at E6
          simp only [e9, enOf, Option.isSome_some] at E6
          have L6 := hide (fun Y (h : Below YY.heap.size YY Y) => last_any (hs3.below h) fit3)
          rw [show (0 : Int) + (R2.length : Int) = (a : Int) + 1 by rw [unhide HL2]; omega] at L6
          have EYY := hide eby
          have IYY := hide ity
          have TYY := hide ety
          have BYY := hide byy
          clear hs3 hlow3 hsub3 kp3 eby ity ety byy fit3 hrow HSX EBY ITY ETY BXX T0 PU
          go_wp2_with fail
          refine (unhide F6).mono ?_
          rintro e w6 ⟨tv6, ev6, N6, rfl, i6, e6, b6⟩
          obtain ⟨at6, ct6, rfl, hfr6, hct6, -⟩ := i6.slice
          obtain ⟨ae6, ce6, rfl, hce6, -⟩ := e6.slice
          rw [List.length_map, unhide HL2] at hct6 hce6
          simp only [List.length_map, unhide HL2]
          obtain ⟨ad6, rfl, hcu⟩ := i6.inF.ints a (by rw [List.length_map, unhide HL2]; omega)
          rw [show (R2.map (·.1)).getD a 0 = top by rw [List.getD_eq_getElem?_getD, List.getElem?_map, unhide HG2]; rfl] at hcu
          have et6 := e6.esR
          obtain ⟨g6, o6, -, -, rfl, -⟩ := et6.at (k := a) (e := e9) (by rw [List.getElem?_map, unhide HG2]; rfl)
          have I6 := hide (i6.inF.take a)
          have ET6 := hide (et6.take a)
          rw [(unhide TK).1] at I6
          rw [(unhide TK).2] at ET6
          have CU := hide hcu
          have C6 := hide b6
          have N6' := hide (unhide E6 _ b6)
          clear i6 e6 et6 hcu b6 hfr6 F6 E6
          go_wp2_with fail
          refine (unhide N6').mono ?_
          rintro e y7 ⟨mv7, rfl, o7, b7⟩
          obtain ⟨mo7, mc7, rfl, -⟩ := o7.slice
          obtain ⟨V, hV⟩ : ∃ V, y7.alloc (.cells #[.int .i64 1, .int .i64 9, .int .i64 9, .string ⟨#[]⟩, .slice mo7 0 mc7, .int .i64 0] 32) = V := ⟨_, rfl⟩
          have bV : Below y7.heap.size y7 V := by rw [← hV]; exact (Below.refl _ y7).alloc (Nat.le_refl _) _
          have xV : V.heap[y7.heap.size]? = some (.cells #[.int .i64 1, .int .i64 9, .int .i64 9, .string ⟨#[]⟩, .slice mo7 0 mc7, .int .i64 0] 32 (0, 0)) := by rw [← hV]; exact box_at _ _
          have b6V := below_far b7 bV
          have bYV := below_far (unhide C6) b6V
          obtain ⟨vb, hvb⟩ : ∃ vb, y7.heap.size = vb := ⟨_, rfl⟩
          rw [hvb] at xV
          have SV := hide (fun (Y : World) (h : Below V.heap.size V Y) => And.intro (six_of (Below.stay h xV)) (And.intro (six_of (mv := .slice none 0 0) (Below.stay (below_far bYV h) (unhide EYY))) (show Y.cell? (ad6.add a) = some (.int .i64 top) by rw [(below_far b6V h).cell (blk_lt (unhide CU))]; exact unhide CU)))
          have LV := hide (fun (Y : World) (h : Below V.heap.size V Y) => unhide L6 Y (below_far bYV h))
          have SEV := hide (fun (Y : World) (h : Below V.heap.size V Y) => rsame_one e9 mo7 none mc7 0 Y (Nat.zero_le _) (IntsR.nil _ _) (IntsR.nil _ _))
          have SIV := hide (fun (Y : World) (h : Below V.heap.size V Y) => sints_eq (some ad6) (some ad4) a ct6 ct4 ((rs.map (·.1)).take a) (by rw [List.length_take, List.length_map, unhide HM]; omega) (by omega) Y ((unhide I6).below (below_far b6V h)).ints (((unhide IYY).take a).below (below_far bYV h)).ints)
          have SSV := hide (fun (Y : World) (h : Below V.heap.size V Y) => rsames_eq ((rs.map (·.2)).take a) a (by rw [List.length_take, List.length_map, unhide HM]; omega) (by omega) (some ⟨g6, o6, none⟩) (some ⟨g4, o4, none⟩) ce6 ce4 Y ((unhide ET6).below (below_far b6V h)) (((unhide TYY).take a).below (below_far bYV h)))
          simp only [e9, enOf, List.length_nil] at SEV
          have HV := hide hV
          have BV := hide (below_far (unhide BYY) bYV)
          have z1 : a ≤ ct6 := by omega
          have z2 : a ≤ ct4 := by omega
          have z3 : a ≤ ce6 := by omega
          have z4 : a ≤ ce4 := by omega
          have z5 : (a : Int) < (a : Int) + 1 := by omega
          clear o7 b7 bV xV b6V bYV hV N6' L6 I6 ET6 IYY TYY CU C6 EYY
          go_upto_region 19 with fail
          rw [unhide HV]
          clear HV hvb
          have EZ := hide (Below.refl V.heap.size V).drew
          go_region_held3 (fun Y => (Y.cell? ⟨vb, 0, none⟩ = some (.int .i64 1) ∧ Y.cell? ⟨vb, 1, none⟩ = some (.int .i64 9) ∧ Y.cell? ⟨vb, 2, none⟩ = some (.int .i64 9) ∧ Y.cell? ⟨vb, 3, none⟩ = some (.string ⟨#[]⟩) ∧ Y.cell? ⟨vb, 4, none⟩ = some (.slice mo7 0 mc7) ∧ Y.cell? ⟨vb, 5, none⟩ = some (.int .i64 0)) ∧ (Y.cell? ⟨eb, 0, none⟩ = some (.int .i64 1) ∧ Y.cell? ⟨eb, 1, none⟩ = some (.int .i64 9) ∧ Y.cell? ⟨eb, 2, none⟩ = some (.int .i64 9) ∧ Y.cell? ⟨eb, 3, none⟩ = some (.string ⟨#[]⟩) ∧ Y.cell? ⟨eb, 4, none⟩ = some (.slice none 0 0) ∧ Y.cell? ⟨eb, 5, none⟩ = some (.int .i64 0)) ∧ Y.cell? (ad6.add a) = some (.int .i64 top))
            (first | exact unhide SV _ (unhide EZ) | fail)
            (first
              | (go_at_call 8; refine (unhide LV _ (unhide EZ)).mono ?_; rintro e zz ⟨rfl, bz⟩
                 have E0 := hide (below_far (unhide EZ) bz); clear EZ bz; have EZ := E0; clear E0)
              | (go_at_call 14; refine (unhide SEV _ (unhide EZ)).mono ?_; rintro e zz ⟨rfl, bz⟩
                 have E0 := hide (below_far (unhide EZ) bz); clear EZ bz; have EZ := E0; clear E0)
              | (go_at_call 15; refine (unhide SIV _ (unhide EZ)).mono ?_; rintro e zz ⟨rfl, bz⟩
                 have E0 := hide (below_far (unhide EZ) bz); clear EZ bz; have EZ := E0; clear E0)
              | (go_at_call 16; refine (unhide SSV _ (unhide EZ)).mono ?_; rintro e zz ⟨rfl, bz⟩
                 have E0 := hide (below_far (unhide EZ) bz); clear EZ bz; have EZ := E0; clear E0))
          all_goals go_wp2
          all_goals go_ret
          all_goals exact ⟨rfl, below_far (unhide BV) (unhide EZ)⟩
end Go.Proofs.Ythebgkkdkhlbbab

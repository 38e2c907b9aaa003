/- CellsPlay: the walk. -/
import Derived.Test.YtnagfoclbdlenaaGreatDoorCPlA
import Derived.Deep.RegionHeld3
import Derived.Deep.DrawnRows
import Derived.Deep.DeepCutAuto
import Derived.Deep.CutBlock
namespace Go.Proofs.YtnagfoclbdlenaaGreatDoor
open Go.RowKit Go.Maps
attribute [local go_sem ↓] Go.wp_at_zero Go.wp_at_succ

theorem eight_cells {w : World} {P : Nat} {F : Int → List Nat} {t : TypeId} {fr : Nat × Nat} (y1 : w.heap[P]? = some (.cells (arr8 F) t fr)) : w.cell? ⟨P, 0, none⟩ = some (.string (str (F 0))) ∧ w.cell? ⟨P, 1, none⟩ = some (.string (str (F 1))) ∧ w.cell? ⟨P, 2, none⟩ = some (.string (str (F 2))) ∧ w.cell? ⟨P, 3, none⟩ = some (.string (str (F 3))) ∧ w.cell? ⟨P, 4, none⟩ = some (.string (str (F 4))) ∧ w.cell? ⟨P, 5, none⟩ = some (.string (str (F 5))) ∧ w.cell? ⟨P, 6, none⟩ = some (.string (str (F 6))) ∧ w.cell? ⟨P, 7, none⟩ = some (.string (str (F 7))) :=
  ⟨(cell_of_block y1).trans rfl, (cell_of_block y1).trans rfl, (cell_of_block y1).trans rfl, (cell_of_block y1).trans rfl, (cell_of_block y1).trans rfl, (cell_of_block y1).trans rfl, (cell_of_block y1).trans rfl, (cell_of_block y1).trans rfl⟩

theorem rem_nat (k n : Nat) : ((k : Int).tmod (n : Int)) = ((k % n : Nat) : Int) := by
  rw [Int.tmod_eq_emod_of_nonneg (by omega)]; omega

set_option maxRecDepth 1000000 in
set_option maxHeartbeats 16000000 in
theorem play_walk (ar : Option Addr) (nr cr : Nat) (hmr : nr ≤ maxLen) (ab : Option Addr) (nb cb : Nat) (bs : List Bool) (hnb : bs.length = nb) (hmb : nb ≤ maxLen) (great : Int) (g a : Addr) (w : World) (hS : Start w g a) (hR : CRowsAt w ar nr) (hB : BoolsR w ab bs) :
    Calls Tryz.prog 3 #[.slice ar nr cr, .slice ab nb cb, .int .i64 great] w fun ev w' => ev = .returned (.bool true) ∧ Below w.heap.size w w' := by
  have hmr' : nr ≤ 9223372036854775807 := hmr
  have hmb' : nb ≤ 9223372036854775807 := hmb
  have HS := hide hS
  have hz := hS.low
  have KN := hide (cknown_any g a w hS)
  have RR := hide (fun (Y : World) (h : Below w.heap.size w Y) => hR.below h)
  have BB := hide (fun (Y : World) (h : Below w.heap.size w Y) => hB.below h)
  have ENB := hide hnb
  obtain ⟨x, hx⟩ : ∃ x : Nat, great % 30 = (x : Int) := ⟨(great % 30).toNat, by have := Int.emod_nonneg great (show (30 : Int) ≠ 0 by decide); omega⟩
  have hx30 : x < 30 := by have := Int.emod_lt_of_pos great (show (0 : Int) < 30 by decide); omega
  have WN := hide (fun w0 => within_at great 30 x hx w0 (by decide) (by decide))
  clear hS hR hB hnb hmr hmb hx
  go_enter Tryz.func3, Tryz.ntmps3
  go_wp2_with fail
  refine (unhide KN).mono ?_
  rintro e w2 ⟨rfl, b2⟩
  have B2 := hide b2
  have S2 := hide ((unhide HS).below b2)
  have hz2 : 4 ≤ w2.heap.size := Nat.le_trans hz b2.size
  clear b2 KN HS
  go_wp2_with fail
  refine (new_ok 400000 w2 (by decide) (by decide)).mono ?_
  rintro e w3 ⟨rfl, t3, b3⟩
  have HC := hide (gfirst w2 w3 t3 ((unhide S2).below b3) b3.size b3)
  clear t3 b3 S2
  go_wp2_with fail
  refine (unhide HC).mono ?_
  rintro e w4 ⟨cp, l, rfl, g4, -⟩
  have BG := hide (fun (Y : World) (f : Int → List Nat) (k : Nat) (c l : Nat) (h : Good w2.heap.size w2 Y c l w2.heap.size g a f k) => show Below w2.heap.size w2 Y ∧ w2.heap.size ≤ Y.heap.size from by
    obtain ⟨_, _, _, _, _, _, _, _, _, _, _, _, _, h9, h10⟩ := h
    exact ⟨h9, h10⟩)
  have G4 := hide g4
  obtain ⟨P, hP⟩ : ∃ P, w4.heap.size = P := ⟨_, rfl⟩
  have LOW : Hid (w2.heap.size ≤ P) := hP ▸ (unhide BG _ _ _ _ _ g4).2
  obtain ⟨W, hW⟩ : ∃ W, w4.alloc (.cells #[.string ⟨#[]⟩, .string ⟨#[]⟩, .string ⟨#[]⟩, .string ⟨#[]⟩, .string ⟨#[]⟩, .string ⟨#[]⟩, .string ⟨#[]⟩, .string ⟨#[]⟩] 34) = W := ⟨_, rfl⟩
  have x1 : W.heap[w4.heap.size]? = some (.cells (arr8 noF) 34 (0, 0)) := by rw [← hW]; exact heap_alloc_new _ _
  have bW : Below w4.heap.size w4 W := by rw [← hW]; exact (Below.refl _ w4).alloc (Nat.le_refl _) _
  rw [hP] at x1
  have X1 := hide x1
  have LW := hide (g4.below bW)
  have HW := hide hW
  have HP := hide hP
  clear g4 HC G4 x1 bW hW hP
  go_wp2_with fail
  rw [unhide HW, unhide HP]
  clear HW HP
  go_loopw [12, 13, 9, 10] (fun i _ c _ wr => ∃ (m cp l : Nat) (f : Int → List Nat), m ≤ 30 ∧ i = .int .i64 m ∧ c = .pointer (some ⟨cp, 0, none⟩) ∧ Good w2.heap.size w2 wr cp l w2.heap.size g a f (8 * m) ∧ wr.heap[P]? = some (.cells (arr8 f) 34 (0, 0))) (fun i _ _ _ _ => 30 - (intOf i).toNat)
  case atStart => exact ⟨0, cp, l, noF, Nat.zero_le _, rfl, rfl, unhide LW, unhide X1⟩
  case round =>
    clear LW X1
    obtain ⟨m, cp, l, f, hm, rfl, rfl, hlive, hx1⟩ := hrel
    have LV := hide hlive
    have X1 := hide hx1
    have BR := hide ((unhide B2).trans ((unhide BG _ _ _ _ _ hlive).1.mono (unhide B2).size))
    clear hlive hx1
    by_cases h1 : m < nr
    · have q1 : (m : Int) < nr := by omega
      by_cases h2 : m < 30
      · have q2 : (m : Int) < 30 := by omega
        obtain ⟨blk, off, r, mm, cx, lst, har, hc0, hlen, -, hmx, hcat, hall⟩ := unhide RR w (Below.refl _ _) m h1
        have hc := ((unhide BR).cell (blk_lt hc0)).trans hc0
        clear hc0
        subst har
        have GO := hide (good_row w r mm cx lst hlen hmx (fun c hc => (hall c hc).1) wr (unhide BR) hcat)
        obtain ⟨A, hAe⟩ : ∃ A, goodOf (lst.take 8) = A := ⟨_, rfl⟩
        have FA : Hid (Fine A) := by rw [← hAe]; exact fine_good _
        have lA8 : A.length ≤ 8 := by rw [← hAe]; exact good_eight _
        rw [hAe] at GO
        obtain ⟨nA, hnA⟩ : ∃ nA, A.length = nA := ⟨_, rfl⟩
        rw [hnA] at GO lA8
        have HNA := hide hnA
        have OPN : Hid ((∃ ad, ab = some ad ∧ m < nb ∧ ∀ Y, Below w.heap.size w Y → Y.cell? (ad.add m) = some (.bool true)) ∨ (∃ ad, ab = some ad ∧ m < nb ∧ ∀ Y, Below w.heap.size w Y → Y.cell? (ad.add m) = some (.bool false)) ∨ nb ≤ m) := by
          by_cases hkm : m < nb
          · obtain ⟨ad, e, _⟩ := unhide BB w (Below.refl _ _) m (by rw [unhide ENB]; exact hkm)
            have all : ∀ Y, Below w.heap.size w Y → Y.cell? (ad.add m) = some (.bool (bs.getD m false)) := fun Y hY => by
              obtain ⟨ad', e', c'⟩ := unhide BB Y hY m (by rw [unhide ENB]; exact hkm)
              rw [e] at e'; cases e'; exact c'
            cases hv : bs.getD m false
            · rw [hv] at all; exact Or.inr (Or.inl ⟨ad, e, hkm, all⟩)
            · rw [hv] at all; exact Or.inl ⟨ad, e, hkm, all⟩
          · exact Or.inr (Or.inr (by omega))
        clear hlen hmx hcat hall hAe hnA
        go_wp2_with fail
        refine (unhide GO).mono ?_
        rintro e w6 ⟨aA, cA, rfl, hcA, gr6, b6⟩
        have lts := (unhide LV).lts
        have y1 := (b6.block _ (blk_lt' (unhide X1))).trans (unhide X1)
        have Y6 := hide y1
        have LTS : Hid ((l < wr.heap.size ∧ w2.heap.size < wr.heap.size) ∧ cp < wr.heap.size) := lts
        have S6 : Hid (wr.heap.size ≤ w6.heap.size) := b6.size
        have GR6 := hide gr6
        have G6 := hide ((unhide LV).below b6)
        have B6 := hide ((unhide BR).trans (b6.mono (unhide BR).size))
        have W6 := hide (unhide WN w6)
        clear GO y1 gr6 b6 hc LV X1 BR lts
        go_wp2_with fail
        refine (unhide W6).mono ?_
        rintro e wq ⟨rfl, hw⟩
        replace hw := hw.symm
        subst hw
        clear W6
        by_cases hmx : m = x
        · subst hmx
          have e0 : ((m : Int) == (m : Int)) = true := by simp
          have hrem8 : (m : Int).tmod 8 = ((m % 8 : Nat) : Int) := rem_nat m 8
          have h8 : m % 8 < 8 := Nat.mod_lt _ (by decide)
          obtain ⟨k8, hk8⟩ : ∃ k8, m % 8 = k8 := ⟨_, rfl⟩
          rw [hk8] at hrem8 h8
          clear hk8
          obtain ⟨Z, hZ⟩ : ∃ Z : Array Value, (u8s (zeros 12000)).toArray = Z := ⟨_, rfl⟩
          have hmk : ∀ w' : World, (Instr.makeSlice 38 (.int .i64 12000) (.int .i64 12000)).run Tryz.prog w' = .ok (.slice (some ⟨w'.heap.size, 0, none⟩) 12000 12000) (w'.alloc (.cells Z 5)) := fun w' => by
            obtain ⟨i0, hi, hz0, hz1, hz2⟩ := info_parts Tryz.info5
            have h := run_makeSlice (P := Tryz.prog) w' 38 5 i0 (.int .u8 0) Tryz.underlying38 hi hz0 .i64 .i64 (12000 : Int) (12000 : Int) (by omega) (Int.le_refl _) (by rw [hz1]; omega) (by rw [hz2]; omega) (by omega)
            rw [hz1, Nat.mul_one] at h
            rw [h, ← hZ]
            exact congrArg (fun z => Result.ok _ (w'.alloc (.cells z _))) (made_zeros 12000)
          have HZ := hide hZ
          clear hZ
          have kcA : (0 : Int) ≤ (cA : Int) := by omega
          have knA : (0 : Int) ≤ (nA : Int) := by omega
          go_upto_region 13 with fail
          go_cut [13] (fun v13 wc => ∃ cap, v13 = .slice (some ⟨w6.heap.size + 2, 0, none⟩) 1 cap ∧ wc.cell? ⟨w6.heap.size + 2, 0, none⟩ = some (.int .i64 (k8 : Int)) ∧ wc.cell? ⟨w6.heap.size + 2, 1, none⟩ = some (.slice (some ⟨w6.heap.size, 0, none⟩) 12000 12000) ∧ wc.heap[w6.heap.size]? = some (.cells Z 5 (0, 0)) ∧ Below w6.heap.size w6 wc)
          case first =>
            go_region_held3 (fun _ => True) (trivial) (first
              | (refine step_cell (by rfl) (.tmp 47) (.tmp 52) (by rfl) _ (by rfl) _ (by rfl) (k8 : Int) (some ⟨w6.heap.size, 0, none⟩) 12000 12000 (0, 0) (by exact (heap2 w6.drew _ _).2.1) (w6.heap.size + 2) (by simp) ?_
                 intro cap wf c0 c1 hcap bf
                 have CF : Hid (wf.cell? ⟨w6.heap.size + 2, 0, none⟩ = some (.int .i64 (k8 : Int)) ∧ wf.cell? ⟨w6.heap.size + 2, 1, none⟩ = some (.slice (some ⟨w6.heap.size, 0, none⟩) 12000 12000) ∧ wf.heap[w6.heap.size]? = some (.cells Z 5 (0, 0)) ∧ Below w6.heap.size w6 wf) := ⟨c0, c1, (bf.block _ (by simp; omega)).trans (heap2 w6.drew _ _).1, (Below.refl _ w6).drew.trans ((heap2 w6.drew _ _).2.2.trans (bf.mono (by simp; omega)))⟩
                 clear c0 c1 bf))
            all_goals go_wp2_with fail
            all_goals go_meet
            all_goals exact ⟨_, rfl, unhide CF⟩
          case rest =>
            obtain ⟨cL, rfl, c0, c1, hz6, bc⟩ := hcut
            obtain ⟨wL, hwL⟩ : ∃ wL, wL = wc := ⟨_, rfl⟩
            subst hwL
            have lz : w6.heap.size < wL.heap.size := blk_lt' hz6
            have lz2 : w6.heap.size + 2 < wL.heap.size := blk_lt c0
            have YL := hide ((bc.block _ (blk_lt' (unhide Y6))).trans (unhide Y6))
            have GL := hide ((unhide G6).below bc)
            have BL := hide ((unhide B6).trans (bc.mono (unhide B6).size))
            rw [← unhide HZ] at hz6
            have PU := hide (gput (k8 : Int) (by omega) (zeros 12000) (by rw [zeros_length]; exact Nat.le_refl _) (some ⟨w6.heap.size + 2, 0, none⟩) cL (by omega) hz2 wL (unhide GL) (great_at c0 c1 hz6))
            have C0 := hide c0
            have C1 := hide c1
            have HZ6 := hide hz6
            obtain ⟨LL, hLL⟩ : ∃ LL : List (Int × List Nat), [((k8 : Int), zeros 12000)] = LL := ⟨_, rfl⟩
            have HLL : Hid (LL.length = 1) := by rw [← hLL]; rfl
            have KL : Hid (Keys LL) := by rw [← hLL]; intro c hc; simp at hc; subst hc; show 0 ≤ (k8 : Int) ∧ (k8 : Int) < 8; omega
            rw [hLL] at PU
            have HLE := hide hLL
            obtain ⟨B0, hB0⟩ : ∃ B0, w6.heap.size = B0 := ⟨_, rfl⟩
            have LT0 : Hid ((l < B0 ∧ w2.heap.size < B0) ∧ cp < B0) := by have := unhide LTS; have := unhide S6; show _ ∧ _; omega
            rw [hB0] at PU C0 C1 HZ6
            rw [hB0]
            obtain ⟨aL, haL⟩ : ∃ aL : Option Addr, some ⟨B0 + 2, 0, none⟩ = aL := ⟨_, rfl⟩
            have HAL := hide haL
            rw [haL] at PU
            rw [haL]
            clear c0 c1 hz6 bc lz lz2 hLL hB0 haL
            go_wp2_with fail
            refine (unhide PU).mono ?_
            rintro e w7 ⟨rfl, g7, k7⟩
            have y1 := box_kept k7 ((unhide GL).apart (unhide YL)) (unhide YL)
            have ne1 : ¬ ((B0 + 2 = l ∨ B0 + 2 = w2.heap.size) ∨ B0 + 2 = cp) := by have := unhide LT0; omega
            have ne2 : ¬ ((B0 = l ∨ B0 = w2.heap.size) ∨ B0 = cp) := by have := unhide LT0; omega
            have at7 : CAt w7 aL LL := by
              rw [← unhide HAL, ← unhide HLE]
              exact great_at (cell_kept k7 (unhide C0) ne1) (cell_kept k7 (unhide C1) ne1) ((k7.2 _ (blk_lt' (unhide HZ6)) ne2).trans (unhide HZ6))
            clear ne1 ne2
            have SP := hide (sput_any f aL 1 cL LL (unhide HLL) (by omega) (unhide KL) w7 at7)
            obtain ⟨F1, hF1⟩ : ∃ F1, setF f LL = F1 := ⟨_, rfl⟩
            rw [hF1] at SP g7
            have qa0 : w7.cell? ⟨P, 0, none⟩ = some (.string (str (f 0))) := (cell_of_block y1).trans rfl
            have qa1 : w7.cell? ⟨P, 1, none⟩ = some (.string (str (f 1))) := (cell_of_block y1).trans rfl
            have qa2 : w7.cell? ⟨P, 2, none⟩ = some (.string (str (f 2))) := (cell_of_block y1).trans rfl
            have qa3 : w7.cell? ⟨P, 3, none⟩ = some (.string (str (f 3))) := (cell_of_block y1).trans rfl
            have qa4 : w7.cell? ⟨P, 4, none⟩ = some (.string (str (f 4))) := (cell_of_block y1).trans rfl
            have qa5 : w7.cell? ⟨P, 5, none⟩ = some (.string (str (f 5))) := (cell_of_block y1).trans rfl
            have qa6 : w7.cell? ⟨P, 6, none⟩ = some (.string (str (f 6))) := (cell_of_block y1).trans rfl
            have qa7 : w7.cell? ⟨P, 7, none⟩ = some (.string (str (f 7))) := (cell_of_block y1).trans rfl
            have Y7 := hide y1
            have G7 := hide (g7.up (show _ ≤ 8 * (m + 1) by omega))
            have B7 := hide ((unhide BL).trans (k7.1.mono (Nat.le_trans (unhide B2).size (Nat.le_refl _))))
            clear g7 k7 y1 at7 PU hF1 GL YL
            go_wp2_with fail
            refine (unhide SP).mono ?_
            rintro e w8 ⟨rfl, b8⟩
            have y2 := (b8.block _ (blk_lt' (unhide Y7))).trans (unhide Y7)
            have qb0 : w8.cell? ⟨P, 0, none⟩ = some (.string (str (f 0))) := (cell_of_block y2).trans rfl
            have qb1 : w8.cell? ⟨P, 1, none⟩ = some (.string (str (f 1))) := (cell_of_block y2).trans rfl
            have qb2 : w8.cell? ⟨P, 2, none⟩ = some (.string (str (f 2))) := (cell_of_block y2).trans rfl
            have qb3 : w8.cell? ⟨P, 3, none⟩ = some (.string (str (f 3))) := (cell_of_block y2).trans rfl
            have qb4 : w8.cell? ⟨P, 4, none⟩ = some (.string (str (f 4))) := (cell_of_block y2).trans rfl
            have qb5 : w8.cell? ⟨P, 5, none⟩ = some (.string (str (f 5))) := (cell_of_block y2).trans rfl
            have qb6 : w8.cell? ⟨P, 6, none⟩ = some (.string (str (f 6))) := (cell_of_block y2).trans rfl
            have qb7 : w8.cell? ⟨P, 7, none⟩ = some (.string (str (f 7))) := (cell_of_block y2).trans rfl
            have jb0 : w8.frozen? ⟨P, 0, none⟩ = false := free_of_block y2
            have jb1 : w8.frozen? ⟨P, 1, none⟩ = false := free_of_block y2
            have jb2 : w8.frozen? ⟨P, 2, none⟩ = false := free_of_block y2
            have jb3 : w8.frozen? ⟨P, 3, none⟩ = false := free_of_block y2
            have jb4 : w8.frozen? ⟨P, 4, none⟩ = false := free_of_block y2
            have jb5 : w8.frozen? ⟨P, 5, none⟩ = false := free_of_block y2
            have jb6 : w8.frozen? ⟨P, 6, none⟩ = false := free_of_block y2
            have jb7 : w8.frozen? ⟨P, 7, none⟩ = false := free_of_block y2
            have e9 := box8_box y2 (.string (str (F1 0))) (.string (str (F1 1))) (.string (str (F1 2))) (.string (str (F1 3))) (.string (str (F1 4))) (.string (str (F1 5))) (.string (str (F1 6))) (.string (str (F1 7)))
            have k9 := box8_kept (Kept.refl w2.heap.size (fun j => j = P) w8) (unhide LOW) (.string (str (F1 0))) (.string (str (F1 1))) (.string (str (F1 2))) (.string (str (F1 3))) (.string (str (F1 4))) (.string (str (F1 5))) (.string (str (F1 6))) (.string (str (F1 7)))
            obtain ⟨V, hV⟩ : ∃ V, box8 w8 P (.string (str (F1 0))) (.string (str (F1 1))) (.string (str (F1 2))) (.string (str (F1 3))) (.string (str (F1 4))) (.string (str (F1 5))) (.string (str (F1 6))) (.string (str (F1 7))) = V := ⟨_, rfl⟩
            rw [hV] at e9 k9
            unfold box8 at hV
            have g8 := (unhide G7).below b8
            have GV : Hid (Good w2.heap.size w2 V cp l w2.heap.size g a F1 (8 * (m + 1))) := (g8.live.kept k9 y2 (g8.apart y2) hz2).good
            have YV : Hid (V.heap[P]? = some (.cells (arr8 F1) 34 (0, 0))) := e9
            have BV : Hid (Below w.heap.size w V) := (unhide B2).trans ((unhide BG _ _ _ _ _ (unhide GV)).1.mono (unhide B2).size)
            have HV := hide hV
            have ea : arr8 F1 = #[.string (str (F1 0)), .string (str (F1 1)), .string (str (F1 2)), .string (str (F1 3)), .string (str (F1 4)), .string (str (F1 5)), .string (str (F1 6)), .string (str (F1 7))] := rfl
            rw [ea]
            clear e9 k9 hV y2 b8 g8 SP Y7 G7 qa0 qa1 qa2 qa3 qa4 qa5 qa6 qa7 ea B7
            go_upto_region 17 with fail
            rw [unhide HV]
            clear HV qb0 qb1 qb2 qb3 qb4 qb5 qb6 qb7 jb0 jb1 jb2 jb3 jb4 jb5 jb6 jb7
            rcases unhide OPN with ⟨ad, rfl, hmb2, hcell⟩ | ⟨ad, rfl, hmb2, hcell⟩ | hmb2
            · have q3 : (m : Int) < nb := by omega
              have cV := hcell V (unhide BV)
              have OP := hide (gopen V (unhide GV))
              clear hcell
              go_wp2_with fail
              refine (unhide OP).mono ?_
              rintro e w9 ⟨cp, l, rfl, -, g9, b9⟩
              have Y9 := hide ((b9.block _ (blk_lt' (unhide YV))).trans (unhide YV))
              have G9 := hide g9
              clear g9 b9 OP GV YV BV
              have SX := hide (fun (Y : World) (h : Below w9.heap.size w9 Y) => eight_cells ((h.block _ (blk_lt' (unhide Y9))).trans (unhide Y9)))
              have GZ := hide (fun (Y : World) (h : Below w9.heap.size w9 Y) => (unhide G9).below h)
              obtain ⟨N9, hN9⟩ : ∃ N9, takes (rows F1) = N9 := ⟨_, rfl⟩
              have l9 : N9 ≤ 96072 := by rw [← hN9]; exact gsz_le (unhide G9)
              have HO9 := hide (fun (Y : World) (h : Below w9.heap.size w9 Y) => hold_same (by omega) Y (unhide GZ Y h))
              have SZ9 := hide (fun (Y : World) (h : Below w9.heap.size w9 Y) => gsz Y (unhide GZ Y h))
              have BY9 := hide (fun (Y : World) (h : Below w9.heap.size w9 Y) => gbytes Y (unhide GZ Y h))
              rw [hN9] at SZ9 BY9
              simp only [arr8] at HO9
              have qc0 : w9.cell? ⟨P, 0, none⟩ = some (.string (str (F1 0))) := (cell_of_block (unhide Y9)).trans rfl
              have qc1 : w9.cell? ⟨P, 1, none⟩ = some (.string (str (F1 1))) := (cell_of_block (unhide Y9)).trans rfl
              have qc2 : w9.cell? ⟨P, 2, none⟩ = some (.string (str (F1 2))) := (cell_of_block (unhide Y9)).trans rfl
              have qc3 : w9.cell? ⟨P, 3, none⟩ = some (.string (str (F1 3))) := (cell_of_block (unhide Y9)).trans rfl
              have qc4 : w9.cell? ⟨P, 4, none⟩ = some (.string (str (F1 4))) := (cell_of_block (unhide Y9)).trans rfl
              have qc5 : w9.cell? ⟨P, 5, none⟩ = some (.string (str (F1 5))) := (cell_of_block (unhide Y9)).trans rfl
              have qc6 : w9.cell? ⟨P, 6, none⟩ = some (.string (str (F1 6))) := (cell_of_block (unhide Y9)).trans rfl
              have qc7 : w9.cell? ⟨P, 7, none⟩ = some (.string (str (F1 7))) := (cell_of_block (unhide Y9)).trans rfl
              have H9 := hide (unhide HO9 w9 (Below.refl _ _))
              have n1 : ¬ (200000 : Int) < (N9 : Int) := by omega
              have n2 : ((N9 : Int) == (N9 : Int)) = true := by simp
              clear hN9 HO9 SX
              go_wp2_with fail
              refine (unhide H9).mono ?_
              rintro e z1 ⟨rfl, bz1⟩
              have Z1 := hide (unhide SZ9 z1 bz1)
              have ZB := hide (unhide BY9 z1 bz1)
              have EZ1 := hide bz1
              clear bz1 H9 SZ9 BY9 qc0 qc1 qc2 qc3 qc4 qc5 qc6 qc7
              go_wp2_with fail
              refine (unhide Z1).mono ?_
              rintro e zz ⟨rfl, hw⟩
              replace hw := hw.symm
              subst hw
              go_wp2_with fail
              refine (unhide Z1).mono ?_
              rintro e zz ⟨rfl, hw⟩
              replace hw := hw.symm
              subst hw
              go_wp2_with fail
              refine (unhide ZB).mono ?_
              rintro e z2 ⟨aob, cpb, rfl, bz2⟩
              have EZ := hide ((unhide EZ1).trans (bz2.mono (unhide EZ1).size))
              clear bz2 Z1 ZB EZ1
              go_wp2
              go_roundw
              case rel => exact ⟨m + 1, cp, l, F1, by omega, by go_num, rfl, unhide GZ _ (unhide EZ), ((unhide EZ).block _ (blk_lt' (unhide Y9))).trans (unhide Y9)⟩
              case measure => simp [intOf]; omega
            · have q3 : (m : Int) < nb := by omega
              have cV := hcell V (unhide BV)
              clear hcell
              obtain ⟨w9, hw9⟩ : ∃ w9, V = w9 := ⟨_, rfl⟩
              subst hw9
              obtain ⟨w9, hw9⟩ : ∃ w9, w9 = V := ⟨_, rfl⟩
              subst hw9
              have Y9 := YV
              have G9 := GV
              clear GV YV BV
              have SX := hide (fun (Y : World) (h : Below w9.heap.size w9 Y) => eight_cells ((h.block _ (blk_lt' (unhide Y9))).trans (unhide Y9)))
              have GZ := hide (fun (Y : World) (h : Below w9.heap.size w9 Y) => (unhide G9).below h)
              obtain ⟨N9, hN9⟩ : ∃ N9, takes (rows F1) = N9 := ⟨_, rfl⟩
              have l9 : N9 ≤ 96072 := by rw [← hN9]; exact gsz_le (unhide G9)
              have HO9 := hide (fun (Y : World) (h : Below w9.heap.size w9 Y) => hold_same (by omega) Y (unhide GZ Y h))
              have SZ9 := hide (fun (Y : World) (h : Below w9.heap.size w9 Y) => gsz Y (unhide GZ Y h))
              have BY9 := hide (fun (Y : World) (h : Below w9.heap.size w9 Y) => gbytes Y (unhide GZ Y h))
              rw [hN9] at SZ9 BY9
              simp only [arr8] at HO9
              have qc0 : w9.cell? ⟨P, 0, none⟩ = some (.string (str (F1 0))) := (cell_of_block (unhide Y9)).trans rfl
              have qc1 : w9.cell? ⟨P, 1, none⟩ = some (.string (str (F1 1))) := (cell_of_block (unhide Y9)).trans rfl
              have qc2 : w9.cell? ⟨P, 2, none⟩ = some (.string (str (F1 2))) := (cell_of_block (unhide Y9)).trans rfl
              have qc3 : w9.cell? ⟨P, 3, none⟩ = some (.string (str (F1 3))) := (cell_of_block (unhide Y9)).trans rfl
              have qc4 : w9.cell? ⟨P, 4, none⟩ = some (.string (str (F1 4))) := (cell_of_block (unhide Y9)).trans rfl
              have qc5 : w9.cell? ⟨P, 5, none⟩ = some (.string (str (F1 5))) := (cell_of_block (unhide Y9)).trans rfl
              have qc6 : w9.cell? ⟨P, 6, none⟩ = some (.string (str (F1 6))) := (cell_of_block (unhide Y9)).trans rfl
              have qc7 : w9.cell? ⟨P, 7, none⟩ = some (.string (str (F1 7))) := (cell_of_block (unhide Y9)).trans rfl
              have H9 := hide (unhide HO9 w9 (Below.refl _ _))
              have n1 : ¬ (200000 : Int) < (N9 : Int) := by omega
              have n2 : ((N9 : Int) == (N9 : Int)) = true := by simp
              clear hN9 HO9 SX
              go_wp2_with fail
              refine (unhide H9).mono ?_
              rintro e z1 ⟨rfl, bz1⟩
              have Z1 := hide (unhide SZ9 z1 bz1)
              have ZB := hide (unhide BY9 z1 bz1)
              have EZ1 := hide bz1
              clear bz1 H9 SZ9 BY9 qc0 qc1 qc2 qc3 qc4 qc5 qc6 qc7
              go_wp2_with fail
              refine (unhide Z1).mono ?_
              rintro e zz ⟨rfl, hw⟩
              replace hw := hw.symm
              subst hw
              go_wp2_with fail
              refine (unhide Z1).mono ?_
              rintro e zz ⟨rfl, hw⟩
              replace hw := hw.symm
              subst hw
              go_wp2_with fail
              refine (unhide ZB).mono ?_
              rintro e z2 ⟨aob, cpb, rfl, bz2⟩
              have EZ := hide ((unhide EZ1).trans (bz2.mono (unhide EZ1).size))
              clear bz2 Z1 ZB EZ1
              go_wp2
              go_roundw
              case rel => exact ⟨m + 1, cp, l, F1, by omega, by go_num, rfl, unhide GZ _ (unhide EZ), ((unhide EZ).block _ (blk_lt' (unhide Y9))).trans (unhide Y9)⟩
              case measure => simp [intOf]; omega
            · have q3 : ¬ (m : Int) < nb := by omega
              obtain ⟨w9, hw9⟩ : ∃ w9, w9 = V := ⟨_, rfl⟩
              subst hw9
              have Y9 := YV
              have G9 := GV
              clear GV YV BV
              have SX := hide (fun (Y : World) (h : Below w9.heap.size w9 Y) => eight_cells ((h.block _ (blk_lt' (unhide Y9))).trans (unhide Y9)))
              have GZ := hide (fun (Y : World) (h : Below w9.heap.size w9 Y) => (unhide G9).below h)
              obtain ⟨N9, hN9⟩ : ∃ N9, takes (rows F1) = N9 := ⟨_, rfl⟩
              have l9 : N9 ≤ 96072 := by rw [← hN9]; exact gsz_le (unhide G9)
              have HO9 := hide (fun (Y : World) (h : Below w9.heap.size w9 Y) => hold_same (by omega) Y (unhide GZ Y h))
              have SZ9 := hide (fun (Y : World) (h : Below w9.heap.size w9 Y) => gsz Y (unhide GZ Y h))
              have BY9 := hide (fun (Y : World) (h : Below w9.heap.size w9 Y) => gbytes Y (unhide GZ Y h))
              rw [hN9] at SZ9 BY9
              simp only [arr8] at HO9
              have qc0 : w9.cell? ⟨P, 0, none⟩ = some (.string (str (F1 0))) := (cell_of_block (unhide Y9)).trans rfl
              have qc1 : w9.cell? ⟨P, 1, none⟩ = some (.string (str (F1 1))) := (cell_of_block (unhide Y9)).trans rfl
              have qc2 : w9.cell? ⟨P, 2, none⟩ = some (.string (str (F1 2))) := (cell_of_block (unhide Y9)).trans rfl
              have qc3 : w9.cell? ⟨P, 3, none⟩ = some (.string (str (F1 3))) := (cell_of_block (unhide Y9)).trans rfl
              have qc4 : w9.cell? ⟨P, 4, none⟩ = some (.string (str (F1 4))) := (cell_of_block (unhide Y9)).trans rfl
              have qc5 : w9.cell? ⟨P, 5, none⟩ = some (.string (str (F1 5))) := (cell_of_block (unhide Y9)).trans rfl
              have qc6 : w9.cell? ⟨P, 6, none⟩ = some (.string (str (F1 6))) := (cell_of_block (unhide Y9)).trans rfl
              have qc7 : w9.cell? ⟨P, 7, none⟩ = some (.string (str (F1 7))) := (cell_of_block (unhide Y9)).trans rfl
              have H9 := hide (unhide HO9 w9 (Below.refl _ _))
              have n1 : ¬ (200000 : Int) < (N9 : Int) := by omega
              have n2 : ((N9 : Int) == (N9 : Int)) = true := by simp
              clear hN9 HO9 SX
              go_wp2_with fail
              refine (unhide H9).mono ?_
              rintro e z1 ⟨rfl, bz1⟩
              have Z1 := hide (unhide SZ9 z1 bz1)
              have ZB := hide (unhide BY9 z1 bz1)
              have EZ1 := hide bz1
              clear bz1 H9 SZ9 BY9 qc0 qc1 qc2 qc3 qc4 qc5 qc6 qc7
              go_wp2_with fail
              refine (unhide Z1).mono ?_
              rintro e zz ⟨rfl, hw⟩
              replace hw := hw.symm
              subst hw
              go_wp2_with fail
              refine (unhide Z1).mono ?_
              rintro e zz ⟨rfl, hw⟩
              replace hw := hw.symm
              subst hw
              go_wp2_with fail
              refine (unhide ZB).mono ?_
              rintro e z2 ⟨aob, cpb, rfl, bz2⟩
              have EZ := hide ((unhide EZ1).trans (bz2.mono (unhide EZ1).size))
              clear bz2 Z1 ZB EZ1
              go_wp2
              go_roundw
              case rel => exact ⟨m + 1, cp, l, F1, by omega, by go_num, rfl, unhide GZ _ (unhide EZ), ((unhide EZ).block _ (blk_lt' (unhide Y9))).trans (unhide Y9)⟩
              case measure => simp [intOf]; omega
        · have e0 : ((m : Int) == (x : Int)) = false := by rw [beq_eq_false_iff_ne]; omega
          have YL := Y6
          have GL := G6
          have BL := B6
          have at6 := (unhide GR6).cat (unhide B6)
          have PU := hide (gputs A (unhide FA) nA (unhide HNA) (by omega) aA cA (by omega) hz2 w6 (unhide G6) at6)
          obtain ⟨LL, hLL⟩ : ∃ LL, A = LL := ⟨_, rfl⟩
          subst hLL
          obtain ⟨LL, hLL⟩ : ∃ LL, LL = A := ⟨_, rfl⟩
          subst hLL
          have HLL := HNA
          have KL := hide (unhide FA).keys
          clear at6
          go_wp2_with fail
          refine (unhide PU).mono ?_
          rintro e w7 ⟨rfl, g7, k7⟩
          have y1 := box_kept k7 ((unhide GL).apart (unhide YL)) (unhide YL)
          have b7' : Below w.heap.size w w7 := (unhide BL).trans (k7.1.mono (unhide B2).size)
          have at7 : CAt w7 aA LL := ((unhide GR6).keep (w' := w7) (fun j hj hlt => k7.2 j hlt (fun x => by have := unhide LTS; omega))).cat b7'
          clear b7'
          have SP := hide (sput_any f aA nA cA LL (unhide HLL) (by omega) (unhide KL) w7 at7)
          obtain ⟨F1, hF1⟩ : ∃ F1, setF f LL = F1 := ⟨_, rfl⟩
          rw [hF1] at SP g7
          have qa0 : w7.cell? ⟨P, 0, none⟩ = some (.string (str (f 0))) := (cell_of_block y1).trans rfl
          have qa1 : w7.cell? ⟨P, 1, none⟩ = some (.string (str (f 1))) := (cell_of_block y1).trans rfl
          have qa2 : w7.cell? ⟨P, 2, none⟩ = some (.string (str (f 2))) := (cell_of_block y1).trans rfl
          have qa3 : w7.cell? ⟨P, 3, none⟩ = some (.string (str (f 3))) := (cell_of_block y1).trans rfl
          have qa4 : w7.cell? ⟨P, 4, none⟩ = some (.string (str (f 4))) := (cell_of_block y1).trans rfl
          have qa5 : w7.cell? ⟨P, 5, none⟩ = some (.string (str (f 5))) := (cell_of_block y1).trans rfl
          have qa6 : w7.cell? ⟨P, 6, none⟩ = some (.string (str (f 6))) := (cell_of_block y1).trans rfl
          have qa7 : w7.cell? ⟨P, 7, none⟩ = some (.string (str (f 7))) := (cell_of_block y1).trans rfl
          have Y7 := hide y1
          have G7 := hide (g7.up (show _ ≤ 8 * (m + 1) by omega))
          have B7 := hide ((unhide BL).trans (k7.1.mono (Nat.le_trans (unhide B2).size (Nat.le_refl _))))
          clear g7 k7 y1 at7 PU hF1 GL YL
          go_wp2_with fail
          refine (unhide SP).mono ?_
          rintro e w8 ⟨rfl, b8⟩
          have y2 := (b8.block _ (blk_lt' (unhide Y7))).trans (unhide Y7)
          have qb0 : w8.cell? ⟨P, 0, none⟩ = some (.string (str (f 0))) := (cell_of_block y2).trans rfl
          have qb1 : w8.cell? ⟨P, 1, none⟩ = some (.string (str (f 1))) := (cell_of_block y2).trans rfl
          have qb2 : w8.cell? ⟨P, 2, none⟩ = some (.string (str (f 2))) := (cell_of_block y2).trans rfl
          have qb3 : w8.cell? ⟨P, 3, none⟩ = some (.string (str (f 3))) := (cell_of_block y2).trans rfl
          have qb4 : w8.cell? ⟨P, 4, none⟩ = some (.string (str (f 4))) := (cell_of_block y2).trans rfl
          have qb5 : w8.cell? ⟨P, 5, none⟩ = some (.string (str (f 5))) := (cell_of_block y2).trans rfl
          have qb6 : w8.cell? ⟨P, 6, none⟩ = some (.string (str (f 6))) := (cell_of_block y2).trans rfl
          have qb7 : w8.cell? ⟨P, 7, none⟩ = some (.string (str (f 7))) := (cell_of_block y2).trans rfl
          have jb0 : w8.frozen? ⟨P, 0, none⟩ = false := free_of_block y2
          have jb1 : w8.frozen? ⟨P, 1, none⟩ = false := free_of_block y2
          have jb2 : w8.frozen? ⟨P, 2, none⟩ = false := free_of_block y2
          have jb3 : w8.frozen? ⟨P, 3, none⟩ = false := free_of_block y2
          have jb4 : w8.frozen? ⟨P, 4, none⟩ = false := free_of_block y2
          have jb5 : w8.frozen? ⟨P, 5, none⟩ = false := free_of_block y2
          have jb6 : w8.frozen? ⟨P, 6, none⟩ = false := free_of_block y2
          have jb7 : w8.frozen? ⟨P, 7, none⟩ = false := free_of_block y2
          have e9 := box8_box y2 (.string (str (F1 0))) (.string (str (F1 1))) (.string (str (F1 2))) (.string (str (F1 3))) (.string (str (F1 4))) (.string (str (F1 5))) (.string (str (F1 6))) (.string (str (F1 7)))
          have k9 := box8_kept (Kept.refl w2.heap.size (fun j => j = P) w8) (unhide LOW) (.string (str (F1 0))) (.string (str (F1 1))) (.string (str (F1 2))) (.string (str (F1 3))) (.string (str (F1 4))) (.string (str (F1 5))) (.string (str (F1 6))) (.string (str (F1 7)))
          obtain ⟨V, hV⟩ : ∃ V, box8 w8 P (.string (str (F1 0))) (.string (str (F1 1))) (.string (str (F1 2))) (.string (str (F1 3))) (.string (str (F1 4))) (.string (str (F1 5))) (.string (str (F1 6))) (.string (str (F1 7))) = V := ⟨_, rfl⟩
          rw [hV] at e9 k9
          unfold box8 at hV
          have g8 := (unhide G7).below b8
          have GV : Hid (Good w2.heap.size w2 V cp l w2.heap.size g a F1 (8 * (m + 1))) := (g8.live.kept k9 y2 (g8.apart y2) hz2).good
          have YV : Hid (V.heap[P]? = some (.cells (arr8 F1) 34 (0, 0))) := e9
          have BV : Hid (Below w.heap.size w V) := (unhide B2).trans ((unhide BG _ _ _ _ _ (unhide GV)).1.mono (unhide B2).size)
          have HV := hide hV
          have ea : arr8 F1 = #[.string (str (F1 0)), .string (str (F1 1)), .string (str (F1 2)), .string (str (F1 3)), .string (str (F1 4)), .string (str (F1 5)), .string (str (F1 6)), .string (str (F1 7))] := rfl
          rw [ea]
          clear e9 k9 hV y2 b8 g8 SP Y7 G7 qa0 qa1 qa2 qa3 qa4 qa5 qa6 qa7 ea B7
          go_upto_region 17 with fail
          rw [unhide HV]
          clear HV qb0 qb1 qb2 qb3 qb4 qb5 qb6 qb7 jb0 jb1 jb2 jb3 jb4 jb5 jb6 jb7
          rcases unhide OPN with ⟨ad, rfl, hmb2, hcell⟩ | ⟨ad, rfl, hmb2, hcell⟩ | hmb2
          · have q3 : (m : Int) < nb := by omega
            have cV := hcell V (unhide BV)
            have OP := hide (gopen V (unhide GV))
            clear hcell
            go_wp2_with fail
            refine (unhide OP).mono ?_
            rintro e w9 ⟨cp, l, rfl, -, g9, b9⟩
            have Y9 := hide ((b9.block _ (blk_lt' (unhide YV))).trans (unhide YV))
            have G9 := hide g9
            clear g9 b9 OP GV YV BV
            have SX := hide (fun (Y : World) (h : Below w9.heap.size w9 Y) => eight_cells ((h.block _ (blk_lt' (unhide Y9))).trans (unhide Y9)))
            have GZ := hide (fun (Y : World) (h : Below w9.heap.size w9 Y) => (unhide G9).below h)
            obtain ⟨N9, hN9⟩ : ∃ N9, takes (rows F1) = N9 := ⟨_, rfl⟩
            have l9 : N9 ≤ 96072 := by rw [← hN9]; exact gsz_le (unhide G9)
            have HO9 := hide (fun (Y : World) (h : Below w9.heap.size w9 Y) => hold_same (by omega) Y (unhide GZ Y h))
            have SZ9 := hide (fun (Y : World) (h : Below w9.heap.size w9 Y) => gsz Y (unhide GZ Y h))
            have BY9 := hide (fun (Y : World) (h : Below w9.heap.size w9 Y) => gbytes Y (unhide GZ Y h))
            rw [hN9] at SZ9 BY9
            simp only [arr8] at HO9
            have qc0 : w9.cell? ⟨P, 0, none⟩ = some (.string (str (F1 0))) := (cell_of_block (unhide Y9)).trans rfl
            have qc1 : w9.cell? ⟨P, 1, none⟩ = some (.string (str (F1 1))) := (cell_of_block (unhide Y9)).trans rfl
            have qc2 : w9.cell? ⟨P, 2, none⟩ = some (.string (str (F1 2))) := (cell_of_block (unhide Y9)).trans rfl
            have qc3 : w9.cell? ⟨P, 3, none⟩ = some (.string (str (F1 3))) := (cell_of_block (unhide Y9)).trans rfl
            have qc4 : w9.cell? ⟨P, 4, none⟩ = some (.string (str (F1 4))) := (cell_of_block (unhide Y9)).trans rfl
            have qc5 : w9.cell? ⟨P, 5, none⟩ = some (.string (str (F1 5))) := (cell_of_block (unhide Y9)).trans rfl
            have qc6 : w9.cell? ⟨P, 6, none⟩ = some (.string (str (F1 6))) := (cell_of_block (unhide Y9)).trans rfl
            have qc7 : w9.cell? ⟨P, 7, none⟩ = some (.string (str (F1 7))) := (cell_of_block (unhide Y9)).trans rfl
            have H9 := hide (unhide HO9 w9 (Below.refl _ _))
            have n1 : ¬ (200000 : Int) < (N9 : Int) := by omega
            have n2 : ((N9 : Int) == (N9 : Int)) = true := by simp
            clear hN9 HO9 SX
            go_wp2_with fail
            refine (unhide H9).mono ?_
            rintro e z1 ⟨rfl, bz1⟩
            have Z1 := hide (unhide SZ9 z1 bz1)
            have ZB := hide (unhide BY9 z1 bz1)
            have EZ1 := hide bz1
            clear bz1 H9 SZ9 BY9 qc0 qc1 qc2 qc3 qc4 qc5 qc6 qc7
            go_wp2_with fail
            refine (unhide Z1).mono ?_
            rintro e zz ⟨rfl, hw⟩
            replace hw := hw.symm
            subst hw
            go_wp2_with fail
            refine (unhide Z1).mono ?_
            rintro e zz ⟨rfl, hw⟩
            replace hw := hw.symm
            subst hw
            go_wp2_with fail
            refine (unhide ZB).mono ?_
            rintro e z2 ⟨aob, cpb, rfl, bz2⟩
            have EZ := hide ((unhide EZ1).trans (bz2.mono (unhide EZ1).size))
            clear bz2 Z1 ZB EZ1
            go_wp2
            go_roundw
            case rel => exact ⟨m + 1, cp, l, F1, by omega, by go_num, rfl, unhide GZ _ (unhide EZ), ((unhide EZ).block _ (blk_lt' (unhide Y9))).trans (unhide Y9)⟩
            case measure => simp [intOf]; omega
          · have q3 : (m : Int) < nb := by omega
            have cV := hcell V (unhide BV)
            clear hcell
            obtain ⟨w9, hw9⟩ : ∃ w9, V = w9 := ⟨_, rfl⟩
            subst hw9
            obtain ⟨w9, hw9⟩ : ∃ w9, w9 = V := ⟨_, rfl⟩
            subst hw9
            have Y9 := YV
            have G9 := GV
            clear GV YV BV
            have SX := hide (fun (Y : World) (h : Below w9.heap.size w9 Y) => eight_cells ((h.block _ (blk_lt' (unhide Y9))).trans (unhide Y9)))
            have GZ := hide (fun (Y : World) (h : Below w9.heap.size w9 Y) => (unhide G9).below h)
            obtain ⟨N9, hN9⟩ : ∃ N9, takes (rows F1) = N9 := ⟨_, rfl⟩
            have l9 : N9 ≤ 96072 := by rw [← hN9]; exact gsz_le (unhide G9)
            have HO9 := hide (fun (Y : World) (h : Below w9.heap.size w9 Y) => hold_same (by omega) Y (unhide GZ Y h))
            have SZ9 := hide (fun (Y : World) (h : Below w9.heap.size w9 Y) => gsz Y (unhide GZ Y h))
            have BY9 := hide (fun (Y : World) (h : Below w9.heap.size w9 Y) => gbytes Y (unhide GZ Y h))
            rw [hN9] at SZ9 BY9
            simp only [arr8] at HO9
            have qc0 : w9.cell? ⟨P, 0, none⟩ = some (.string (str (F1 0))) := (cell_of_block (unhide Y9)).trans rfl
            have qc1 : w9.cell? ⟨P, 1, none⟩ = some (.string (str (F1 1))) := (cell_of_block (unhide Y9)).trans rfl
            have qc2 : w9.cell? ⟨P, 2, none⟩ = some (.string (str (F1 2))) := (cell_of_block (unhide Y9)).trans rfl
            have qc3 : w9.cell? ⟨P, 3, none⟩ = some (.string (str (F1 3))) := (cell_of_block (unhide Y9)).trans rfl
            have qc4 : w9.cell? ⟨P, 4, none⟩ = some (.string (str (F1 4))) := (cell_of_block (unhide Y9)).trans rfl
            have qc5 : w9.cell? ⟨P, 5, none⟩ = some (.string (str (F1 5))) := (cell_of_block (unhide Y9)).trans rfl
            have qc6 : w9.cell? ⟨P, 6, none⟩ = some (.string (str (F1 6))) := (cell_of_block (unhide Y9)).trans rfl
            have qc7 : w9.cell? ⟨P, 7, none⟩ = some (.string (str (F1 7))) := (cell_of_block (unhide Y9)).trans rfl
            have H9 := hide (unhide HO9 w9 (Below.refl _ _))
            have n1 : ¬ (200000 : Int) < (N9 : Int) := by omega
            have n2 : ((N9 : Int) == (N9 : Int)) = true := by simp
            clear hN9 HO9 SX
            go_wp2_with fail
            refine (unhide H9).mono ?_
            rintro e z1 ⟨rfl, bz1⟩
            have Z1 := hide (unhide SZ9 z1 bz1)
            have ZB := hide (unhide BY9 z1 bz1)
            have EZ1 := hide bz1
            clear bz1 H9 SZ9 BY9 qc0 qc1 qc2 qc3 qc4 qc5 qc6 qc7
            go_wp2_with fail
            refine (unhide Z1).mono ?_
            rintro e zz ⟨rfl, hw⟩
            replace hw := hw.symm
            subst hw
            go_wp2_with fail
            refine (unhide Z1).mono ?_
            rintro e zz ⟨rfl, hw⟩
            replace hw := hw.symm
            subst hw
            go_wp2_with fail
            refine (unhide ZB).mono ?_
            rintro e z2 ⟨aob, cpb, rfl, bz2⟩
            have EZ := hide ((unhide EZ1).trans (bz2.mono (unhide EZ1).size))
            clear bz2 Z1 ZB EZ1
            go_wp2
            go_roundw
            case rel => exact ⟨m + 1, cp, l, F1, by omega, by go_num, rfl, unhide GZ _ (unhide EZ), ((unhide EZ).block _ (blk_lt' (unhide Y9))).trans (unhide Y9)⟩
            case measure => simp [intOf]; omega
          · have q3 : ¬ (m : Int) < nb := by omega
            obtain ⟨w9, hw9⟩ : ∃ w9, w9 = V := ⟨_, rfl⟩
            subst hw9
            have Y9 := YV
            have G9 := GV
            clear GV YV BV
            have SX := hide (fun (Y : World) (h : Below w9.heap.size w9 Y) => eight_cells ((h.block _ (blk_lt' (unhide Y9))).trans (unhide Y9)))
            have GZ := hide (fun (Y : World) (h : Below w9.heap.size w9 Y) => (unhide G9).below h)
            obtain ⟨N9, hN9⟩ : ∃ N9, takes (rows F1) = N9 := ⟨_, rfl⟩
            have l9 : N9 ≤ 96072 := by rw [← hN9]; exact gsz_le (unhide G9)
            have HO9 := hide (fun (Y : World) (h : Below w9.heap.size w9 Y) => hold_same (by omega) Y (unhide GZ Y h))
            have SZ9 := hide (fun (Y : World) (h : Below w9.heap.size w9 Y) => gsz Y (unhide GZ Y h))
            have BY9 := hide (fun (Y : World) (h : Below w9.heap.size w9 Y) => gbytes Y (unhide GZ Y h))
            rw [hN9] at SZ9 BY9
            simp only [arr8] at HO9
            have qc0 : w9.cell? ⟨P, 0, none⟩ = some (.string (str (F1 0))) := (cell_of_block (unhide Y9)).trans rfl
            have qc1 : w9.cell? ⟨P, 1, none⟩ = some (.string (str (F1 1))) := (cell_of_block (unhide Y9)).trans rfl
            have qc2 : w9.cell? ⟨P, 2, none⟩ = some (.string (str (F1 2))) := (cell_of_block (unhide Y9)).trans rfl
            have qc3 : w9.cell? ⟨P, 3, none⟩ = some (.string (str (F1 3))) := (cell_of_block (unhide Y9)).trans rfl
            have qc4 : w9.cell? ⟨P, 4, none⟩ = some (.string (str (F1 4))) := (cell_of_block (unhide Y9)).trans rfl
            have qc5 : w9.cell? ⟨P, 5, none⟩ = some (.string (str (F1 5))) := (cell_of_block (unhide Y9)).trans rfl
            have qc6 : w9.cell? ⟨P, 6, none⟩ = some (.string (str (F1 6))) := (cell_of_block (unhide Y9)).trans rfl
            have qc7 : w9.cell? ⟨P, 7, none⟩ = some (.string (str (F1 7))) := (cell_of_block (unhide Y9)).trans rfl
            have H9 := hide (unhide HO9 w9 (Below.refl _ _))
            have n1 : ¬ (200000 : Int) < (N9 : Int) := by omega
            have n2 : ((N9 : Int) == (N9 : Int)) = true := by simp
            clear hN9 HO9 SX
            go_wp2_with fail
            refine (unhide H9).mono ?_
            rintro e z1 ⟨rfl, bz1⟩
            have Z1 := hide (unhide SZ9 z1 bz1)
            have ZB := hide (unhide BY9 z1 bz1)
            have EZ1 := hide bz1
            clear bz1 H9 SZ9 BY9 qc0 qc1 qc2 qc3 qc4 qc5 qc6 qc7
            go_wp2_with fail
            refine (unhide Z1).mono ?_
            rintro e zz ⟨rfl, hw⟩
            replace hw := hw.symm
            subst hw
            go_wp2_with fail
            refine (unhide Z1).mono ?_
            rintro e zz ⟨rfl, hw⟩
            replace hw := hw.symm
            subst hw
            go_wp2_with fail
            refine (unhide ZB).mono ?_
            rintro e z2 ⟨aob, cpb, rfl, bz2⟩
            have EZ := hide ((unhide EZ1).trans (bz2.mono (unhide EZ1).size))
            clear bz2 Z1 ZB EZ1
            go_wp2
            go_roundw
            case rel => exact ⟨m + 1, cp, l, F1, by omega, by go_num, rfl, unhide GZ _ (unhide EZ), ((unhide EZ).block _ (blk_lt' (unhide Y9))).trans (unhide Y9)⟩
            case measure => simp [intOf]; omega
      · have q2 : ¬ (m : Int) < 30 := by omega
        go_wp2
        go_ret
        exact ⟨rfl, unhide BR⟩
    · have q1 : ¬ (m : Int) < nr := by omega
      go_wp2
      go_ret
      exact ⟨rfl, unhide BR⟩
end Go.Proofs.YtnagfoclbdlenaaGreatDoor

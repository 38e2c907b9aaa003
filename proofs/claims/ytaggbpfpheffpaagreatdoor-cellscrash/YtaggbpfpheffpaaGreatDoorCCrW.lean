/- CellsCrash: the walk. -/
import Derived.Test.YtaggbpfpheffpaaGreatDoorCCrA
namespace Go.Proofs.YtaggbpfpheffpaaGreatDoor
open Go.RowKit Go.Maps

theorem CRowsAt.below {w w' : World} {ao : Option Addr} {n : Nat} (h : CRowsAt w ao n) (hb : Below w.heap.size w w') : CRowsAt w' ao n := fun i hi => by
  obtain ⟨blk, off, r, m, cx, lst, h1, h2, h3, h4, h5, h6, h7⟩ := h i hi
  exact ⟨blk, off, r, m, cx, lst, h1, (hb.cell (blk_lt h2)).trans h2, h3, h4, h5, h6.below hb, h7⟩

theorem cell_same {w w' : World} {a : Addr} (h : w'.heap[a.block]? = w.heap[a.block]?) : w'.cell? a = w.cell? a := by unfold World.cell?; rw [h]
theorem ne_box {w : World} {N : Nat} {f : Int → List Nat} {t : TypeId} {fr : Nat × Nat} (hN : w.heap[N]? = some (.cells (arr8 f) t fr)) {a : Addr} {v : Value} (h : w.cell? a = some v) (hv : ∀ s, v ≠ .string s) : a.block ≠ N := fun e => by
  unfold World.cell? at h
  rw [e, hN] at h
  simp only at h
  split at h
  · cases h
  · by_cases h8 : a.off < 8
    · rw [arr8_at f a.off h8] at h
      cases h
      exact hv _ rfl
    · rw [Array.getElem?_eq_none (by show 8 ≤ a.off; omega)] at h
      cases h
theorem box_cell {w w' : World} {base N : Nat} {f : Int → List Nat} {t : TypeId} {fr : Nat × Nat} (hN : w.heap[N]? = some (.cells (arr8 f) t fr)) (hk : Kept base (fun j => j = N) w w') {a : Addr} {v : Value} (h : w.cell? a = some v) (hv : ∀ s, v ≠ .string s) : w'.cell? a = some v :=
  (cell_same (hk.2 a.block (by
    unfold World.cell? at h
    split at h
    · rename_i e; exact blk_lt' e
    · cases h) (ne_box hN h hv))).trans h
theorem CAt.box {w w' : World} {base N : Nat} {f : Int → List Nat} {t : TypeId} {fr : Nat × Nat} {ao : Option Addr} {l : List (Int × List Nat)} (h : CAt w ao l) (hN : w.heap[N]? = some (.cells (arr8 f) t fr)) (hk : Kept base (fun j => j = N) w w') : CAt w' ao l := fun i n bs hi => by
  obtain ⟨blk, off, r, cx, h1, h2, h3, h4, h5, h6⟩ := h i n bs hi
  refine ⟨blk, off, r, cx, h1, box_cell hN hk h2 (fun s e => by cases e), box_cell hN hk h3 (fun s e => by cases e), ⟨h4.1, fun j hj => ?_⟩, h5, h6⟩
  obtain ⟨b, e1, e2⟩ := h4.2 j hj
  exact ⟨b, e1, box_cell hN hk e2 (fun s e => by cases e)⟩
theorem Live.kept {base : Nat} {w0 w w' : World} {cp l p P : Nat} {g a : Addr} {f : Int → List Nat} {k : Nat} {left : Int} {dead : Bool} {xs : Array Value} {fr : Nat × Nat} (h : Live base w0 w cp l p g a f k left dead) (hk : Kept base (fun j => j = P) w w') (hx : w.heap[P]? = some (.cells xs 34 fr)) (hP : (P ≠ l ∧ P ≠ p) ∧ P ≠ cp) (hz : 4 ≤ base) : Live base w0 w' cp l p g a f k left dead := by
  obtain ⟨b, c, q, n, ops, h1, h2, h3, h4, h5, h6, h7, h8, h9, h10⟩ := h
  exact ⟨b, c, q, n, ops, ⟨h1.1, (hk.2 cp (blk_lt' h1.2.1) (fun e => hP.2 e.symm)).trans h1.2.1, h1.2.2.kept hk (fun j hj => by subst hj; exact ⟨_, _, _, hx, by decide⟩)⟩, h2.kept hk (fun j hj e => by
    rcases hj with hj | hj
    · exact hP.1.1 (e.symm.trans hj)
    · exact h2.tape.far hx (by rw [← e]; exact hj)), h3, h4, h5, h6, h7, h8.keptd hk hz, h9.trans hk.1, Nat.le_trans h10 hk.1.size⟩
theorem Live.up {base : Nat} {w0 w : World} {cp l p : Nat} {g a : Addr} {f : Int → List Nat} {k k' : Nat} {left : Int} {dead : Bool} (h : Live base w0 w cp l p g a f k left dead) (hk : k ≤ k') : Live base w0 w cp l p g a f k' left dead := by
  obtain ⟨b, c, q, n, ops, h1, h2, h3, h4, h5, h6, h7, h8, h9, h10⟩ := h
  exact ⟨b, c, q, n, ops, h1, h2, h3, h4, h5, by omega, by omega, h8, h9, h10⟩

set_option maxRecDepth 20000 in
set_option maxHeartbeats 8000000 in
theorem crash_walk (ar : Option Addr) (nr cr : Nat) (hmr : nr ≤ maxLen) (stop : Int) (ap : Option Addr) (np cp0 : Nat) (ps : List Int) (hnp : ps.length = np) (hmp : np ≤ maxLen) (ag : Option Addr) (ng cg : Nat) (gs : List Int) (hng : gs.length = ng) (hmg : ng ≤ maxLen) (g a : Addr) (w : World) (hS : Start w g a) (hR : CRowsAt w ar nr) (hP : Nums w ap ps) (hG : Nums w ag gs) :
    Calls Tryz.prog 4 #[.slice ar nr cr, .int .i64 stop, .slice ap np cp0, .slice ag ng cg] w fun ev w' => ev = .returned (.bool true) ∧ Below w.heap.size w w' := by
  have hmr' : nr ≤ 9223372036854775807 := hmr
  have hmp' : np ≤ 9223372036854775807 := hmp
  have hmg' : ng ≤ 9223372036854775807 := hmg
  have HS := hide hS
  have hz := hS.low
  have KN := hide (cknown_any g a w hS)
  have RR := hide (fun (Y : World) (h : Below w.heap.size w Y) => hR.below h)
  have PP := hide (fun (Y : World) (h : Below w.heap.size w Y) => hP.below h)
  have GG := hide (fun (Y : World) (h : Below w.heap.size w Y) => hG.below h)
  have ENP := hide hnp
  have ENG := hide hng
  obtain ⟨x, hx⟩ : ∃ x : Nat, stop % 60 = (x : Int) := ⟨(stop % 60).toNat, by have := Int.emod_nonneg stop (show (60 : Int) ≠ 0 by decide); omega⟩
  have hx60 : x < 60 := by have := Int.emod_lt_of_pos stop (show (0 : Int) < 60 by decide); omega
  have WN := hide (fun w0 => within_at stop 60 x hx w0 (by decide) (by decide))
  clear hS hR hP hG hnp hng hmr hmp hmg hx
  go_enter Tryz.func4, Tryz.ntmps4
  go_wp2_with fail
  refine (unhide KN).mono ?_
  rintro e w2 ⟨rfl, b2⟩
  have B2 := hide b2
  have S2 := hide ((unhide HS).below b2)
  have hz2 : 4 ≤ w2.heap.size := Nat.le_trans hz b2.size
  clear b2 KN HS
  go_wp2_with fail
  refine (new_ok 400000 w2 (by decide) (by decide)).mono ?_
  rintro e w3 ⟨rfl, t3, b3⟩
  have HC := hide (gfirst w2 w3 t3 ((unhide S2).below b3) b3.size b3)
  clear t3 b3 S2
  go_wp2_with fail
  refine (unhide HC).mono ?_
  rintro e w4 ⟨cp, l, rfl, g4, -⟩
  have BG := hide (fun (Y : World) (f : Int → List Nat) (k : Nat) (left : Int) (dead : Bool) (h : Rest w2.heap.size w2 Y w2.heap.size g a f k left dead) => show Below w2.heap.size w2 Y from by
    obtain ⟨_, _, _, _, _, _, _, _, _, _, h9, _⟩ := h
    exact h9)
  have G4 := hide g4
  clear g4 HC
  go_wp2_with fail
  refine (unhide WN w4).mono ?_
  rintro e wq ⟨rfl, hw⟩
  replace hw := hw.symm
  subst hw
  have ST := hide (lstop (1 + (x : Int)) hz2 w4 (unhide G4).live)
  clear WN G4
  go_wp2_with fail
  refine (unhide ST).mono ?_
  rintro e w5 ⟨rfl, g5, -⟩
  obtain ⟨P, hP⟩ : ∃ P, w5.heap.size = P := ⟨_, rfl⟩
  have LP : Hid ((P ≠ l ∧ P ≠ w2.heap.size) ∧ P ≠ cp) := by
    have := g5.lt
    show (P ≠ l ∧ P ≠ w2.heap.size) ∧ P ≠ cp
    omega
  have LN : Hid ((P + 1 ≠ l ∧ P + 1 ≠ w2.heap.size) ∧ P + 1 ≠ cp) := by
    have := g5.lt
    show (P + 1 ≠ l ∧ P + 1 ≠ w2.heap.size) ∧ P + 1 ≠ cp
    omega
  have LOW : Hid (w2.heap.size ≤ P) := by
    have := g5.rest.size
    show w2.heap.size ≤ P
    omega
  obtain ⟨W, hW⟩ : ∃ W, (w5.alloc (.cells #[.string ⟨#[]⟩, .string ⟨#[]⟩, .string ⟨#[]⟩, .string ⟨#[]⟩, .string ⟨#[]⟩, .string ⟨#[]⟩, .string ⟨#[]⟩, .string ⟨#[]⟩] 34)).alloc (.cells #[.string ⟨#[]⟩, .string ⟨#[]⟩, .string ⟨#[]⟩, .string ⟨#[]⟩, .string ⟨#[]⟩, .string ⟨#[]⟩, .string ⟨#[]⟩, .string ⟨#[]⟩] 34) = W := ⟨_, rfl⟩
  obtain ⟨x1, x2, bW⟩ : W.heap[w5.heap.size]? = some (.cells (arr8 noF) 34 (0, 0)) ∧ W.heap[w5.heap.size + 1]? = some (.cells (arr8 noF) 34 (0, 0)) ∧ Below w5.heap.size w5 W := by rw [← hW]; exact heap2 w5 _ _
  rw [hP] at x1 x2
  have X1 := hide x1
  have X2 := hide x2
  have LW := hide (g5.below bW)
  have HW := hide hW
  have HP := hide hP
  clear g5 ST x1 x2 bW hW hP
  go_wp2_with fail
  rw [unhide HW, unhide HP]
  clear HW HP
  go_loopw [15, 16] (fun i _ wr => ∃ (m : Nat) (f fn : Int → List Nat) (left : Int) (dead : Bool), m ≤ 30 ∧ i = .int .i64 m ∧ left ≤ 1000 ∧ Live w2.heap.size w2 wr cp l w2.heap.size g a f (8 * m) left dead ∧ wr.heap[P]? = some (.cells (arr8 f) 34 (0, 0)) ∧ wr.heap[P + 1]? = some (.cells (arr8 fn) 34 (0, 0))) (fun i _ _ => 30 - (intOf i).toNat)
  case atStart => exact ⟨0, noF, noF, _, _, Nat.zero_le _, rfl, by omega, unhide LW, unhide X1, unhide X2⟩
  case round =>
    clear LW X1 X2
    obtain ⟨m, f, fn, left, dead, hm, rfl, hleft, hlive, hx1, hx2⟩ := hrel
    have LV := hide hlive
    have X1 := hide hx1
    have X2 := hide hx2
    have BR := hide ((unhide B2).trans ((unhide BG _ _ _ _ _ hlive.rest).mono (unhide B2).size))
    have DD := hide (ldead wr hlive)
    clear hlive hx1 hx2
    by_cases h1 : m < nr
    · have q1 : (m : Int) < nr := by omega
      by_cases h2 : m < 30
      · have q2 : (m : Int) < 30 := by omega
        cases dead with
        | false =>
          obtain ⟨blk, off, r, mm, cx, lst, har, hc, hlen, -, hmx, hcat, hall⟩ := unhide RR wr (unhide BR) m h1
          subst har
          have GO := hide (good_any r mm cx lst hlen hmx (fun c hc => (hall c hc).1) wr hcat)
          obtain ⟨A, hAe⟩ : ∃ A, goodOf (lst.take 8) = A := ⟨_, rfl⟩
          have FA : Hid (Fine A) := by rw [← hAe]; exact fine_good _
          have lA8 : A.length ≤ 8 := by rw [← hAe]; exact good_eight _
          rw [hAe] at GO
          obtain ⟨nA, hnA⟩ : ∃ nA, A.length = nA := ⟨_, rfl⟩
          rw [hnA] at GO lA8
          have HNA := hide hnA
          clear hlen hmx hcat hall hAe hnA
          go_wp2_with fail
          refine (unhide DD).mono ?_
          rintro e wz ⟨rfl, hw⟩
          replace hw := hw.symm
          subst hw
          clear DD
          go_wp2_with fail
          refine (unhide GO).mono ?_
          rintro e w6 ⟨aA, cA, rfl, -, at6, b6⟩
          have y1 := (b6.block _ (blk_lt' (unhide X1))).trans (unhide X1)
          have y2 := (b6.block _ (blk_lt' (unhide X2))).trans (unhide X2)
          have qa0 : w6.cell? ⟨P, 0, none⟩ = some (.string (str (f 0))) := (cell_of_block y1).trans rfl
          have qa1 : w6.cell? ⟨P, 1, none⟩ = some (.string (str (f 1))) := (cell_of_block y1).trans rfl
          have qa2 : w6.cell? ⟨P, 2, none⟩ = some (.string (str (f 2))) := (cell_of_block y1).trans rfl
          have qa3 : w6.cell? ⟨P, 3, none⟩ = some (.string (str (f 3))) := (cell_of_block y1).trans rfl
          have qa4 : w6.cell? ⟨P, 4, none⟩ = some (.string (str (f 4))) := (cell_of_block y1).trans rfl
          have qa5 : w6.cell? ⟨P, 5, none⟩ = some (.string (str (f 5))) := (cell_of_block y1).trans rfl
          have qa6 : w6.cell? ⟨P, 6, none⟩ = some (.string (str (f 6))) := (cell_of_block y1).trans rfl
          have qa7 : w6.cell? ⟨P, 7, none⟩ = some (.string (str (f 7))) := (cell_of_block y1).trans rfl
          have SP := hide (sput_any f aA nA cA A (unhide HNA) (by omega) (unhide FA).keys w6 at6)
          obtain ⟨F1, hF1⟩ : ∃ F1, setF f A = F1 := ⟨_, rfl⟩
          rw [hF1] at SP
          have HF1 := hide hF1
          have Y1 := hide y1
          have Y2 := hide y2
          have AT6 := hide at6
          have B6 := hide b6
          clear GO y1 y2 at6 b6 hF1 hc
          go_wp2_with fail
          refine (unhide SP).mono ?_
          rintro e w7 ⟨rfl, b7⟩
          have y2 := (b7.block _ (blk_lt' (unhide Y2))).trans (unhide Y2)
          have y1 := (b7.block _ (blk_lt' (unhide Y1))).trans (unhide Y1)
          have qb0 : w7.cell? ⟨P + 1, 0, none⟩ = some (.string (str (fn 0))) := (cell_of_block y2).trans rfl
          have qb1 : w7.cell? ⟨P + 1, 1, none⟩ = some (.string (str (fn 1))) := (cell_of_block y2).trans rfl
          have qb2 : w7.cell? ⟨P + 1, 2, none⟩ = some (.string (str (fn 2))) := (cell_of_block y2).trans rfl
          have qb3 : w7.cell? ⟨P + 1, 3, none⟩ = some (.string (str (fn 3))) := (cell_of_block y2).trans rfl
          have qb4 : w7.cell? ⟨P + 1, 4, none⟩ = some (.string (str (fn 4))) := (cell_of_block y2).trans rfl
          have qb5 : w7.cell? ⟨P + 1, 5, none⟩ = some (.string (str (fn 5))) := (cell_of_block y2).trans rfl
          have qb6 : w7.cell? ⟨P + 1, 6, none⟩ = some (.string (str (fn 6))) := (cell_of_block y2).trans rfl
          have qb7 : w7.cell? ⟨P + 1, 7, none⟩ = some (.string (str (fn 7))) := (cell_of_block y2).trans rfl
          have jb0 : w7.frozen? ⟨P + 1, 0, none⟩ = false := free_of_block y2
          have jb1 : w7.frozen? ⟨P + 1, 1, none⟩ = false := free_of_block y2
          have jb2 : w7.frozen? ⟨P + 1, 2, none⟩ = false := free_of_block y2
          have jb3 : w7.frozen? ⟨P + 1, 3, none⟩ = false := free_of_block y2
          have jb4 : w7.frozen? ⟨P + 1, 4, none⟩ = false := free_of_block y2
          have jb5 : w7.frozen? ⟨P + 1, 5, none⟩ = false := free_of_block y2
          have jb6 : w7.frozen? ⟨P + 1, 6, none⟩ = false := free_of_block y2
          have jb7 : w7.frozen? ⟨P + 1, 7, none⟩ = false := free_of_block y2
          have e8 := box8_box y2 (.string (str (F1 0))) (.string (str (F1 1))) (.string (str (F1 2))) (.string (str (F1 3))) (.string (str (F1 4))) (.string (str (F1 5))) (.string (str (F1 6))) (.string (str (F1 7)))
          have kb : Kept w2.heap.size (fun j => j = P + 1) wr w7 := Kept.of_below ((unhide B6).trans (b7.mono (unhide B6).size)) (unhide LV).rest.size
          have k8 := box8_kept kb (Nat.le_succ_of_le (unhide LOW)) (.string (str (F1 0))) (.string (str (F1 1))) (.string (str (F1 2))) (.string (str (F1 3))) (.string (str (F1 4))) (.string (str (F1 5))) (.string (str (F1 6))) (.string (str (F1 7)))
          have k9 := box8_kept (Kept.refl w2.heap.size (fun j => j = P + 1) w7) (Nat.le_succ_of_le (unhide LOW)) (.string (str (F1 0))) (.string (str (F1 1))) (.string (str (F1 2))) (.string (str (F1 3))) (.string (str (F1 4))) (.string (str (F1 5))) (.string (str (F1 6))) (.string (str (F1 7)))
          obtain ⟨Z, hZ⟩ : ∃ Z, box8 w7 (P + 1) (.string (str (F1 0))) (.string (str (F1 1))) (.string (str (F1 2))) (.string (str (F1 3))) (.string (str (F1 4))) (.string (str (F1 5))) (.string (str (F1 6))) (.string (str (F1 7))) = Z := ⟨_, rfl⟩
          rw [hZ] at e8 k8 k9
          unfold box8 at hZ
          have XZ2 : Hid (Z.heap[P + 1]? = some (.cells (arr8 F1) 34 (0, 0))) := e8
          have XZ1 : Hid (Z.heap[P]? = some (.cells (arr8 f) 34 (0, 0))) := (k9.2 P (blk_lt' y1) (by omega)).trans y1
          have LZ := hide ((unhide LV).kept k8 (unhide X2) (unhide LN) hz2)
          have PU := hide (lputs A (unhide FA) nA (unhide HNA) (by omega) aA cA (by omega) hleft hz2 Z (unhide LZ) (((unhide AT6).below b7).box y2 k9))
          rw [unhide HF1] at PU
          have HZ := hide hZ
          have ea : arr8 F1 = #[.string (str (F1 0)), .string (str (F1 1)), .string (str (F1 2)), .string (str (F1 3)), .string (str (F1 4)), .string (str (F1 5)), .string (str (F1 6)), .string (str (F1 7))] := rfl
          rw [ea]
          clear e8 kb k8 k9 hZ y1 y2 b7 SP Y1 Y2 AT6 B6 ea LZ qa0 qa1 qa2 qa3 qa4 qa5 qa6 qa7
          go_wp2_with fail
          rw [unhide HZ]
          refine (unhide PU).mono ?_
          rintro e w8 ⟨R, left', dead', rfl, hR, hl', g8, k8⟩
          have y1 := box_kept k8 (unhide LP) (unhide XZ1)
          have y2 := box_kept k8 (unhide LN) (unhide XZ2)
          clear PU HZ k8 XZ1 XZ2 qb0 qb1 qb2 qb3 qb4 qb5 qb6 qb7 jb0 jb1 jb2 jb3 jb4 jb5 jb6 jb7
          rcases hR with rfl | rfl
          · rw [if_pos rfl] at g8
            have qa0 : w8.cell? ⟨P + 1, 0, none⟩ = some (.string (str (F1 0))) := (cell_of_block y2).trans rfl
            have qa1 : w8.cell? ⟨P + 1, 1, none⟩ = some (.string (str (F1 1))) := (cell_of_block y2).trans rfl
            have qa2 : w8.cell? ⟨P + 1, 2, none⟩ = some (.string (str (F1 2))) := (cell_of_block y2).trans rfl
            have qa3 : w8.cell? ⟨P + 1, 3, none⟩ = some (.string (str (F1 3))) := (cell_of_block y2).trans rfl
            have qa4 : w8.cell? ⟨P + 1, 4, none⟩ = some (.string (str (F1 4))) := (cell_of_block y2).trans rfl
            have qa5 : w8.cell? ⟨P + 1, 5, none⟩ = some (.string (str (F1 5))) := (cell_of_block y2).trans rfl
            have qa6 : w8.cell? ⟨P + 1, 6, none⟩ = some (.string (str (F1 6))) := (cell_of_block y2).trans rfl
            have qa7 : w8.cell? ⟨P + 1, 7, none⟩ = some (.string (str (F1 7))) := (cell_of_block y2).trans rfl
            have qb0 : w8.cell? ⟨P, 0, none⟩ = some (.string (str (f 0))) := (cell_of_block y1).trans rfl
            have qb1 : w8.cell? ⟨P, 1, none⟩ = some (.string (str (f 1))) := (cell_of_block y1).trans rfl
            have qb2 : w8.cell? ⟨P, 2, none⟩ = some (.string (str (f 2))) := (cell_of_block y1).trans rfl
            have qb3 : w8.cell? ⟨P, 3, none⟩ = some (.string (str (f 3))) := (cell_of_block y1).trans rfl
            have qb4 : w8.cell? ⟨P, 4, none⟩ = some (.string (str (f 4))) := (cell_of_block y1).trans rfl
            have qb5 : w8.cell? ⟨P, 5, none⟩ = some (.string (str (f 5))) := (cell_of_block y1).trans rfl
            have qb6 : w8.cell? ⟨P, 6, none⟩ = some (.string (str (f 6))) := (cell_of_block y1).trans rfl
            have qb7 : w8.cell? ⟨P, 7, none⟩ = some (.string (str (f 7))) := (cell_of_block y1).trans rfl
            have jb0 : w8.frozen? ⟨P, 0, none⟩ = false := free_of_block y1
            have jb1 : w8.frozen? ⟨P, 1, none⟩ = false := free_of_block y1
            have jb2 : w8.frozen? ⟨P, 2, none⟩ = false := free_of_block y1
            have jb3 : w8.frozen? ⟨P, 3, none⟩ = false := free_of_block y1
            have jb4 : w8.frozen? ⟨P, 4, none⟩ = false := free_of_block y1
            have jb5 : w8.frozen? ⟨P, 5, none⟩ = false := free_of_block y1
            have jb6 : w8.frozen? ⟨P, 6, none⟩ = false := free_of_block y1
            have jb7 : w8.frozen? ⟨P, 7, none⟩ = false := free_of_block y1
            have e9 := box8_box y1 (.string (str (F1 0))) (.string (str (F1 1))) (.string (str (F1 2))) (.string (str (F1 3))) (.string (str (F1 4))) (.string (str (F1 5))) (.string (str (F1 6))) (.string (str (F1 7)))
            have k9 := box8_kept (Kept.refl w2.heap.size (fun j => j = P) w8) (unhide LOW) (.string (str (F1 0))) (.string (str (F1 1))) (.string (str (F1 2))) (.string (str (F1 3))) (.string (str (F1 4))) (.string (str (F1 5))) (.string (str (F1 6))) (.string (str (F1 7)))
            obtain ⟨V, hV⟩ : ∃ V, box8 w8 P (.string (str (F1 0))) (.string (str (F1 1))) (.string (str (F1 2))) (.string (str (F1 3))) (.string (str (F1 4))) (.string (str (F1 5))) (.string (str (F1 6))) (.string (str (F1 7))) = V := ⟨_, rfl⟩
            rw [hV] at e9 k9
            unfold box8 at hV
            have FIN : Hid (Live w2.heap.size w2 V cp l w2.heap.size g a F1 (8 * (m + 1)) left' dead' ∧ V.heap[P]? = some (.cells (arr8 F1) 34 (0, 0)) ∧ V.heap[P + 1]? = some (.cells (arr8 F1) 34 (0, 0))) := ⟨(g8.kept k9 y1 (unhide LP) hz2).up (by omega), e9, (k9.2 (P + 1) (blk_lt' y2) (by omega)).trans y2⟩
            have HV := hide hV
            clear e9 k9 hV y1 y2 g8
            go_wp2
            rw [unhide HV]
            go_roundw
            case rel => exact ⟨m + 1, F1, F1, left', dead', by omega, by go_num, hl', unhide FIN⟩
            case measure => simp [intOf]; omega
          · rw [if_neg (by decide)] at g8
            have FIN : Hid (Live w2.heap.size w2 w8 cp l w2.heap.size g a f (8 * (m + 1)) left' dead' ∧ w8.heap[P]? = some (.cells (arr8 f) 34 (0, 0)) ∧ w8.heap[P + 1]? = some (.cells (arr8 F1) 34 (0, 0))) := ⟨g8.up (by omega), y1, y2⟩
            clear y1 y2 g8
            go_wp2
            go_roundw
            case rel => exact ⟨m + 1, f, F1, left', dead', by omega, by go_num, hl', unhide FIN⟩
            case measure => simp [intOf]; omega
        | true =>
          go_wp2_with fail
          refine (unhide DD).mono ?_
          rintro e wz ⟨rfl, hw⟩
          replace hw := hw.symm
          subst hw
          clear DD
          go_wp2_with fail
          obtain ⟨wq, hwq⟩ : ∃ wq, wq = wr := ⟨_, rfl⟩
          subst hwq
          go_loopw [17, 18] (fun i _ wr => ∃ (j : Nat) (lf : Int) (dd : Bool), j ≤ 4 ∧ i = .int .i64 j ∧ Rest w2.heap.size w2 wr w2.heap.size g a f (8 * m) lf dd ∧ wr.heap[P]? = some (.cells (arr8 f) 34 (0, 0))) (fun i _ _ => 4 - (intOf i).toNat)
          case atStart => exact ⟨0, _, _, Nat.zero_le _, rfl, (unhide LV).rest, unhide X1⟩
          case round =>
            clear q1 h1
            obtain ⟨j, lf, dd, hj, rfl, hrest, hbx⟩ := hrel
            have RS := hide hrest
            have XB := hide hbx
            have BQ := hide ((unhide B2).trans ((unhide BG _ _ _ _ _ hrest).mono (unhide B2).size))
            clear hrest hbx
            by_cases h1 : j < ng
            · have q1 : (j : Int) < ng := by omega
              by_cases h4 : j < 4
              · have q4 : (j : Int) < 4 := by omega
                by_cases h5 : j < np
                · have q5 : (j : Int) < np := by omega
                  obtain ⟨aP, haP, cP, -, -⟩ := unhide PP wr (unhide BQ) j (by rw [unhide ENP]; exact h5)
                  subst haP
                  obtain ⟨pk, hpk⟩ : ∃ pk, ps.getD j 0 = pk := ⟨_, rfl⟩
                  rw [hpk] at cP
                  clear hpk
                  have RC := hide (rcrash (pk) hz2 wr (unhide RS))
                  go_wp2_with fail
                  refine (unhide RC).mono ?_
                  rintro e wC ⟨rfl, rC, kC⟩
                  have XC := hide (box_kept1 kC (unhide LP).1.2 (unhide XB))
                  have RRC := hide rC
                  have BC := hide ((unhide B2).trans ((unhide BG _ _ _ _ _ rC).mono (unhide B2).size))
                  clear rC kC RC
                  obtain ⟨aG, haG, cG, -, -⟩ := unhide GG wC (unhide BC) j (by rw [unhide ENG]; exact h1)
                  subst haG
                  obtain ⟨y, hy, WM⟩ := within_nat (gs.getD j 0) 4 wC (by decide) (by decide)
                  obtain ⟨z, hzz⟩ : ∃ z, gs.getD j 0 = z := ⟨_, rfl⟩
                  rw [hzz] at cG WM
                  have WMH := hide WM
                  have SS := hide (rstop (1 + (y : Int)) hz2 wC (unhide RRC))
                  clear WM hzz RRC
                  go_wp2_with fail
                  refine (unhide WMH).mono ?_
                  rintro e wz ⟨rfl, hw⟩
                  replace hw := hw.symm
                  subst hw
                  clear WMH
                  go_wp2_with fail
                  refine (unhide SS).mono ?_
                  rintro e wS ⟨rfl, rS, kS⟩
                  have XS := hide (box_kept1 kS (unhide LP).1.2 (unhide XC))
                  have RO := hide (ropenL wS rS)
                  clear rS kS SS XC cG
                  go_wp2_with fail
                  refine (unhide RO).mono ?_
                  rintro e wO ⟨v, rfl, rO, bO⟩
                  have FIN : Hid (Rest w2.heap.size w2 wO w2.heap.size g a f (8 * m) (1 + (y : Int)) false ∧ wO.heap[P]? = some (.cells (arr8 f) 34 (0, 0))) := ⟨rO, (bO.block _ (blk_lt' (unhide XS))).trans (unhide XS)⟩
                  clear rO bO RO XS
                  go_wp2
                  go_roundw
                  case rel => exact ⟨j + 1, _, _, by omega, by go_num, unhide FIN⟩
                  case measure => simp [intOf]; omega
                · have q5 : ¬ (j : Int) < np := by omega
                  have RC := hide (rcrash (0) hz2 wr (unhide RS))
                  go_wp2_with fail
                  refine (unhide RC).mono ?_
                  rintro e wC ⟨rfl, rC, kC⟩
                  have XC := hide (box_kept1 kC (unhide LP).1.2 (unhide XB))
                  have RRC := hide rC
                  have BC := hide ((unhide B2).trans ((unhide BG _ _ _ _ _ rC).mono (unhide B2).size))
                  clear rC kC RC
                  obtain ⟨aG, haG, cG, -, -⟩ := unhide GG wC (unhide BC) j (by rw [unhide ENG]; exact h1)
                  subst haG
                  obtain ⟨y, hy, WM⟩ := within_nat (gs.getD j 0) 4 wC (by decide) (by decide)
                  obtain ⟨z, hzz⟩ : ∃ z, gs.getD j 0 = z := ⟨_, rfl⟩
                  rw [hzz] at cG WM
                  have WMH := hide WM
                  have SS := hide (rstop (1 + (y : Int)) hz2 wC (unhide RRC))
                  clear WM hzz RRC
                  go_wp2_with fail
                  refine (unhide WMH).mono ?_
                  rintro e wz ⟨rfl, hw⟩
                  replace hw := hw.symm
                  subst hw
                  clear WMH
                  go_wp2_with fail
                  refine (unhide SS).mono ?_
                  rintro e wS ⟨rfl, rS, kS⟩
                  have XS := hide (box_kept1 kS (unhide LP).1.2 (unhide XC))
                  have RO := hide (ropenL wS rS)
                  clear rS kS SS XC cG
                  go_wp2_with fail
                  refine (unhide RO).mono ?_
                  rintro e wO ⟨v, rfl, rO, bO⟩
                  have FIN : Hid (Rest w2.heap.size w2 wO w2.heap.size g a f (8 * m) (1 + (y : Int)) false ∧ wO.heap[P]? = some (.cells (arr8 f) 34 (0, 0))) := ⟨rO, (bO.block _ (blk_lt' (unhide XS))).trans (unhide XS)⟩
                  clear rO bO RO XS
                  go_wp2
                  go_roundw
                  case rel => exact ⟨j + 1, _, _, by omega, by go_num, unhide FIN⟩
                  case measure => simp [intOf]; omega
              · have q4 : ¬ (j : Int) < 4 := by omega
                by_cases h0 : np = 0
                · subst h0
                  have RC := hide (rcrash (0) hz2 wr (unhide RS))
                  go_wp2_with fail
                  refine (unhide RC).mono ?_
                  rintro e wC ⟨rfl, rC, kC⟩
                  have XC := hide (box_kept1 kC (unhide LP).1.2 (unhide XB))
                  have RRC := hide rC
                  have BC := hide ((unhide B2).trans ((unhide BG _ _ _ _ _ rC).mono (unhide B2).size))
                  clear rC kC RC
                  have RO := hide (ropen wC (unhide RRC))
                  clear RRC
                  go_wp2_with fail
                  refine (unhide RO).mono ?_
                  rintro e wD ⟨cp', l', rfl, gD, bD⟩
                  have xD := (bD.block _ (blk_lt' (unhide XC))).trans (unhide XC)
                  have z0 : wD.cell? ⟨P, 0, none⟩ = some (.string (str (f 0))) := (cell_of_block xD).trans rfl
                  have z1 : wD.cell? ⟨P, 1, none⟩ = some (.string (str (f 1))) := (cell_of_block xD).trans rfl
                  have z2 : wD.cell? ⟨P, 2, none⟩ = some (.string (str (f 2))) := (cell_of_block xD).trans rfl
                  have z3 : wD.cell? ⟨P, 3, none⟩ = some (.string (str (f 3))) := (cell_of_block xD).trans rfl
                  have z4 : wD.cell? ⟨P, 4, none⟩ = some (.string (str (f 4))) := (cell_of_block xD).trans rfl
                  have z5 : wD.cell? ⟨P, 5, none⟩ = some (.string (str (f 5))) := (cell_of_block xD).trans rfl
                  have z6 : wD.cell? ⟨P, 6, none⟩ = some (.string (str (f 6))) := (cell_of_block xD).trans rfl
                  have z7 : wD.cell? ⟨P, 7, none⟩ = some (.string (str (f 7))) := (cell_of_block xD).trans rfl
                  have HO := hide (holds_any (F := f) (by omega) wD gD)
                  rw [decide_eq_true (fun j _ => rfl)] at HO
                  have BD := hide ((unhide B2).trans ((unhide BG _ _ _ _ _ gD.live.rest).mono (unhide B2).size))
                  clear gD bD xD RO XC
                  go_wp2_with fail
                  refine (unhide HO).mono ?_
                  rintro e wE ⟨rfl, bE⟩
                  have BE := hide ((unhide BD).trans (bE.mono (unhide BD).size))
                  clear bE HO
                  go_wp2
                  go_ret
                  exact ⟨rfl, unhide BE⟩
                · have h0' : (0 : Int) < np := by omega
                  obtain ⟨aP, haP, cP, -, -⟩ := unhide PP wr (unhide BQ) 0 (by rw [unhide ENP]; omega)
                  subst haP
                  obtain ⟨pk, hpk⟩ : ∃ pk, ps.getD 0 0 = pk := ⟨_, rfl⟩
                  rw [hpk] at cP
                  have cP' : wr.cell? aP = some (.int .i64 pk) := by simpa [Addr.add] using cP
                  clear hpk
                  have RC := hide (rcrash (pk) hz2 wr (unhide RS))
                  go_wp2_with fail
                  refine (unhide RC).mono ?_
                  rintro e wC ⟨rfl, rC, kC⟩
                  have XC := hide (box_kept1 kC (unhide LP).1.2 (unhide XB))
                  have RRC := hide rC
                  have BC := hide ((unhide B2).trans ((unhide BG _ _ _ _ _ rC).mono (unhide B2).size))
                  clear rC kC RC
                  have RO := hide (ropen wC (unhide RRC))
                  clear RRC
                  go_wp2_with fail
                  refine (unhide RO).mono ?_
                  rintro e wD ⟨cp', l', rfl, gD, bD⟩
                  have xD := (bD.block _ (blk_lt' (unhide XC))).trans (unhide XC)
                  have z0 : wD.cell? ⟨P, 0, none⟩ = some (.string (str (f 0))) := (cell_of_block xD).trans rfl
                  have z1 : wD.cell? ⟨P, 1, none⟩ = some (.string (str (f 1))) := (cell_of_block xD).trans rfl
                  have z2 : wD.cell? ⟨P, 2, none⟩ = some (.string (str (f 2))) := (cell_of_block xD).trans rfl
                  have z3 : wD.cell? ⟨P, 3, none⟩ = some (.string (str (f 3))) := (cell_of_block xD).trans rfl
                  have z4 : wD.cell? ⟨P, 4, none⟩ = some (.string (str (f 4))) := (cell_of_block xD).trans rfl
                  have z5 : wD.cell? ⟨P, 5, none⟩ = some (.string (str (f 5))) := (cell_of_block xD).trans rfl
                  have z6 : wD.cell? ⟨P, 6, none⟩ = some (.string (str (f 6))) := (cell_of_block xD).trans rfl
                  have z7 : wD.cell? ⟨P, 7, none⟩ = some (.string (str (f 7))) := (cell_of_block xD).trans rfl
                  have HO := hide (holds_any (F := f) (by omega) wD gD)
                  rw [decide_eq_true (fun j _ => rfl)] at HO
                  have BD := hide ((unhide B2).trans ((unhide BG _ _ _ _ _ gD.live.rest).mono (unhide B2).size))
                  clear gD bD xD RO XC
                  go_wp2_with fail
                  refine (unhide HO).mono ?_
                  rintro e wE ⟨rfl, bE⟩
                  have BE := hide ((unhide BD).trans (bE.mono (unhide BD).size))
                  clear bE HO
                  go_wp2
                  go_ret
                  exact ⟨rfl, unhide BE⟩
            · have q1 : ¬ (j : Int) < ng := by omega
              by_cases h0 : np = 0
              · subst h0
                have RC := hide (rcrash (0) hz2 wr (unhide RS))
                go_wp2_with fail
                refine (unhide RC).mono ?_
                rintro e wC ⟨rfl, rC, kC⟩
                have XC := hide (box_kept1 kC (unhide LP).1.2 (unhide XB))
                have RRC := hide rC
                have BC := hide ((unhide B2).trans ((unhide BG _ _ _ _ _ rC).mono (unhide B2).size))
                clear rC kC RC
                have RO := hide (ropen wC (unhide RRC))
                clear RRC
                go_wp2_with fail
                refine (unhide RO).mono ?_
                rintro e wD ⟨cp', l', rfl, gD, bD⟩
                have xD := (bD.block _ (blk_lt' (unhide XC))).trans (unhide XC)
                have z0 : wD.cell? ⟨P, 0, none⟩ = some (.string (str (f 0))) := (cell_of_block xD).trans rfl
                have z1 : wD.cell? ⟨P, 1, none⟩ = some (.string (str (f 1))) := (cell_of_block xD).trans rfl
                have z2 : wD.cell? ⟨P, 2, none⟩ = some (.string (str (f 2))) := (cell_of_block xD).trans rfl
                have z3 : wD.cell? ⟨P, 3, none⟩ = some (.string (str (f 3))) := (cell_of_block xD).trans rfl
                have z4 : wD.cell? ⟨P, 4, none⟩ = some (.string (str (f 4))) := (cell_of_block xD).trans rfl
                have z5 : wD.cell? ⟨P, 5, none⟩ = some (.string (str (f 5))) := (cell_of_block xD).trans rfl
                have z6 : wD.cell? ⟨P, 6, none⟩ = some (.string (str (f 6))) := (cell_of_block xD).trans rfl
                have z7 : wD.cell? ⟨P, 7, none⟩ = some (.string (str (f 7))) := (cell_of_block xD).trans rfl
                have HO := hide (holds_any (F := f) (by omega) wD gD)
                rw [decide_eq_true (fun j _ => rfl)] at HO
                have BD := hide ((unhide B2).trans ((unhide BG _ _ _ _ _ gD.live.rest).mono (unhide B2).size))
                clear gD bD xD RO XC
                go_wp2_with fail
                refine (unhide HO).mono ?_
                rintro e wE ⟨rfl, bE⟩
                have BE := hide ((unhide BD).trans (bE.mono (unhide BD).size))
                clear bE HO
                go_wp2
                go_ret
                exact ⟨rfl, unhide BE⟩
              · have h0' : (0 : Int) < np := by omega
                obtain ⟨aP, haP, cP, -, -⟩ := unhide PP wr (unhide BQ) 0 (by rw [unhide ENP]; omega)
                subst haP
                obtain ⟨pk, hpk⟩ : ∃ pk, ps.getD 0 0 = pk := ⟨_, rfl⟩
                rw [hpk] at cP
                have cP' : wr.cell? aP = some (.int .i64 pk) := by simpa [Addr.add] using cP
                clear hpk
                have RC := hide (rcrash (pk) hz2 wr (unhide RS))
                go_wp2_with fail
                refine (unhide RC).mono ?_
                rintro e wC ⟨rfl, rC, kC⟩
                have XC := hide (box_kept1 kC (unhide LP).1.2 (unhide XB))
                have RRC := hide rC
                have BC := hide ((unhide B2).trans ((unhide BG _ _ _ _ _ rC).mono (unhide B2).size))
                clear rC kC RC
                have RO := hide (ropen wC (unhide RRC))
                clear RRC
                go_wp2_with fail
                refine (unhide RO).mono ?_
                rintro e wD ⟨cp', l', rfl, gD, bD⟩
                have xD := (bD.block _ (blk_lt' (unhide XC))).trans (unhide XC)
                have z0 : wD.cell? ⟨P, 0, none⟩ = some (.string (str (f 0))) := (cell_of_block xD).trans rfl
                have z1 : wD.cell? ⟨P, 1, none⟩ = some (.string (str (f 1))) := (cell_of_block xD).trans rfl
                have z2 : wD.cell? ⟨P, 2, none⟩ = some (.string (str (f 2))) := (cell_of_block xD).trans rfl
                have z3 : wD.cell? ⟨P, 3, none⟩ = some (.string (str (f 3))) := (cell_of_block xD).trans rfl
                have z4 : wD.cell? ⟨P, 4, none⟩ = some (.string (str (f 4))) := (cell_of_block xD).trans rfl
                have z5 : wD.cell? ⟨P, 5, none⟩ = some (.string (str (f 5))) := (cell_of_block xD).trans rfl
                have z6 : wD.cell? ⟨P, 6, none⟩ = some (.string (str (f 6))) := (cell_of_block xD).trans rfl
                have z7 : wD.cell? ⟨P, 7, none⟩ = some (.string (str (f 7))) := (cell_of_block xD).trans rfl
                have HO := hide (holds_any (F := f) (by omega) wD gD)
                rw [decide_eq_true (fun j _ => rfl)] at HO
                have BD := hide ((unhide B2).trans ((unhide BG _ _ _ _ _ gD.live.rest).mono (unhide B2).size))
                clear gD bD xD RO XC
                go_wp2_with fail
                refine (unhide HO).mono ?_
                rintro e wE ⟨rfl, bE⟩
                have BE := hide ((unhide BD).trans (bE.mono (unhide BD).size))
                clear bE HO
                go_wp2
                go_ret
                exact ⟨rfl, unhide BE⟩
      · have q2 : ¬ (m : Int) < 30 := by omega
        go_wp2_with fail
        obtain ⟨wq, hwq⟩ : ∃ wq, wq = wr := ⟨_, rfl⟩
        subst hwq
        go_loopw [17, 18] (fun i _ wr => ∃ (j : Nat) (lf : Int) (dd : Bool), j ≤ 4 ∧ i = .int .i64 j ∧ Rest w2.heap.size w2 wr w2.heap.size g a f (8 * m) lf dd ∧ wr.heap[P]? = some (.cells (arr8 f) 34 (0, 0))) (fun i _ _ => 4 - (intOf i).toNat)
        case atStart => exact ⟨0, _, _, Nat.zero_le _, rfl, (unhide LV).rest, unhide X1⟩
        case round =>
          clear q1 h1
          obtain ⟨j, lf, dd, hj, rfl, hrest, hbx⟩ := hrel
          have RS := hide hrest
          have XB := hide hbx
          have BQ := hide ((unhide B2).trans ((unhide BG _ _ _ _ _ hrest).mono (unhide B2).size))
          clear hrest hbx
          by_cases h1 : j < ng
          · have q1 : (j : Int) < ng := by omega
            by_cases h4 : j < 4
            · have q4 : (j : Int) < 4 := by omega
              by_cases h5 : j < np
              · have q5 : (j : Int) < np := by omega
                obtain ⟨aP, haP, cP, -, -⟩ := unhide PP wr (unhide BQ) j (by rw [unhide ENP]; exact h5)
                subst haP
                obtain ⟨pk, hpk⟩ : ∃ pk, ps.getD j 0 = pk := ⟨_, rfl⟩
                rw [hpk] at cP
                clear hpk
                have RC := hide (rcrash (pk) hz2 wr (unhide RS))
                go_wp2_with fail
                refine (unhide RC).mono ?_
                rintro e wC ⟨rfl, rC, kC⟩
                have XC := hide (box_kept1 kC (unhide LP).1.2 (unhide XB))
                have RRC := hide rC
                have BC := hide ((unhide B2).trans ((unhide BG _ _ _ _ _ rC).mono (unhide B2).size))
                clear rC kC RC
                obtain ⟨aG, haG, cG, -, -⟩ := unhide GG wC (unhide BC) j (by rw [unhide ENG]; exact h1)
                subst haG
                obtain ⟨y, hy, WM⟩ := within_nat (gs.getD j 0) 4 wC (by decide) (by decide)
                obtain ⟨z, hzz⟩ : ∃ z, gs.getD j 0 = z := ⟨_, rfl⟩
                rw [hzz] at cG WM
                have WMH := hide WM
                have SS := hide (rstop (1 + (y : Int)) hz2 wC (unhide RRC))
                clear WM hzz RRC
                go_wp2_with fail
                refine (unhide WMH).mono ?_
                rintro e wz ⟨rfl, hw⟩
                replace hw := hw.symm
                subst hw
                clear WMH
                go_wp2_with fail
                refine (unhide SS).mono ?_
                rintro e wS ⟨rfl, rS, kS⟩
                have XS := hide (box_kept1 kS (unhide LP).1.2 (unhide XC))
                have RO := hide (ropenL wS rS)
                clear rS kS SS XC cG
                go_wp2_with fail
                refine (unhide RO).mono ?_
                rintro e wO ⟨v, rfl, rO, bO⟩
                have FIN : Hid (Rest w2.heap.size w2 wO w2.heap.size g a f (8 * m) (1 + (y : Int)) false ∧ wO.heap[P]? = some (.cells (arr8 f) 34 (0, 0))) := ⟨rO, (bO.block _ (blk_lt' (unhide XS))).trans (unhide XS)⟩
                clear rO bO RO XS
                go_wp2
                go_roundw
                case rel => exact ⟨j + 1, _, _, by omega, by go_num, unhide FIN⟩
                case measure => simp [intOf]; omega
              · have q5 : ¬ (j : Int) < np := by omega
                have RC := hide (rcrash (0) hz2 wr (unhide RS))
                go_wp2_with fail
                refine (unhide RC).mono ?_
                rintro e wC ⟨rfl, rC, kC⟩
                have XC := hide (box_kept1 kC (unhide LP).1.2 (unhide XB))
                have RRC := hide rC
                have BC := hide ((unhide B2).trans ((unhide BG _ _ _ _ _ rC).mono (unhide B2).size))
                clear rC kC RC
                obtain ⟨aG, haG, cG, -, -⟩ := unhide GG wC (unhide BC) j (by rw [unhide ENG]; exact h1)
                subst haG
                obtain ⟨y, hy, WM⟩ := within_nat (gs.getD j 0) 4 wC (by decide) (by decide)
                obtain ⟨z, hzz⟩ : ∃ z, gs.getD j 0 = z := ⟨_, rfl⟩
                rw [hzz] at cG WM
                have WMH := hide WM
                have SS := hide (rstop (1 + (y : Int)) hz2 wC (unhide RRC))
                clear WM hzz RRC
                go_wp2_with fail
                refine (unhide WMH).mono ?_
                rintro e wz ⟨rfl, hw⟩
                replace hw := hw.symm
                subst hw
                clear WMH
                go_wp2_with fail
                refine (unhide SS).mono ?_
                rintro e wS ⟨rfl, rS, kS⟩
                have XS := hide (box_kept1 kS (unhide LP).1.2 (unhide XC))
                have RO := hide (ropenL wS rS)
                clear rS kS SS XC cG
                go_wp2_with fail
                refine (unhide RO).mono ?_
                rintro e wO ⟨v, rfl, rO, bO⟩
                have FIN : Hid (Rest w2.heap.size w2 wO w2.heap.size g a f (8 * m) (1 + (y : Int)) false ∧ wO.heap[P]? = some (.cells (arr8 f) 34 (0, 0))) := ⟨rO, (bO.block _ (blk_lt' (unhide XS))).trans (unhide XS)⟩
                clear rO bO RO XS
                go_wp2
                go_roundw
                case rel => exact ⟨j + 1, _, _, by omega, by go_num, unhide FIN⟩
                case measure => simp [intOf]; omega
            · have q4 : ¬ (j : Int) < 4 := by omega
              by_cases h0 : np = 0
              · subst h0
                have RC := hide (rcrash (0) hz2 wr (unhide RS))
                go_wp2_with fail
                refine (unhide RC).mono ?_
                rintro e wC ⟨rfl, rC, kC⟩
                have XC := hide (box_kept1 kC (unhide LP).1.2 (unhide XB))
                have RRC := hide rC
                have BC := hide ((unhide B2).trans ((unhide BG _ _ _ _ _ rC).mono (unhide B2).size))
                clear rC kC RC
                have RO := hide (ropen wC (unhide RRC))
                clear RRC
                go_wp2_with fail
                refine (unhide RO).mono ?_
                rintro e wD ⟨cp', l', rfl, gD, bD⟩
                have xD := (bD.block _ (blk_lt' (unhide XC))).trans (unhide XC)
                have z0 : wD.cell? ⟨P, 0, none⟩ = some (.string (str (f 0))) := (cell_of_block xD).trans rfl
                have z1 : wD.cell? ⟨P, 1, none⟩ = some (.string (str (f 1))) := (cell_of_block xD).trans rfl
                have z2 : wD.cell? ⟨P, 2, none⟩ = some (.string (str (f 2))) := (cell_of_block xD).trans rfl
                have z3 : wD.cell? ⟨P, 3, none⟩ = some (.string (str (f 3))) := (cell_of_block xD).trans rfl
                have z4 : wD.cell? ⟨P, 4, none⟩ = some (.string (str (f 4))) := (cell_of_block xD).trans rfl
                have z5 : wD.cell? ⟨P, 5, none⟩ = some (.string (str (f 5))) := (cell_of_block xD).trans rfl
                have z6 : wD.cell? ⟨P, 6, none⟩ = some (.string (str (f 6))) := (cell_of_block xD).trans rfl
                have z7 : wD.cell? ⟨P, 7, none⟩ = some (.string (str (f 7))) := (cell_of_block xD).trans rfl
                have HO := hide (holds_any (F := f) (by omega) wD gD)
                rw [decide_eq_true (fun j _ => rfl)] at HO
                have BD := hide ((unhide B2).trans ((unhide BG _ _ _ _ _ gD.live.rest).mono (unhide B2).size))
                clear gD bD xD RO XC
                go_wp2_with fail
                refine (unhide HO).mono ?_
                rintro e wE ⟨rfl, bE⟩
                have BE := hide ((unhide BD).trans (bE.mono (unhide BD).size))
                clear bE HO
                go_wp2
                go_ret
                exact ⟨rfl, unhide BE⟩
              · have h0' : (0 : Int) < np := by omega
                obtain ⟨aP, haP, cP, -, -⟩ := unhide PP wr (unhide BQ) 0 (by rw [unhide ENP]; omega)
                subst haP
                obtain ⟨pk, hpk⟩ : ∃ pk, ps.getD 0 0 = pk := ⟨_, rfl⟩
                rw [hpk] at cP
                have cP' : wr.cell? aP = some (.int .i64 pk) := by simpa [Addr.add] using cP
                clear hpk
                have RC := hide (rcrash (pk) hz2 wr (unhide RS))
                go_wp2_with fail
                refine (unhide RC).mono ?_
                rintro e wC ⟨rfl, rC, kC⟩
                have XC := hide (box_kept1 kC (unhide LP).1.2 (unhide XB))
                have RRC := hide rC
                have BC := hide ((unhide B2).trans ((unhide BG _ _ _ _ _ rC).mono (unhide B2).size))
                clear rC kC RC
                have RO := hide (ropen wC (unhide RRC))
                clear RRC
                go_wp2_with fail
                refine (unhide RO).mono ?_
                rintro e wD ⟨cp', l', rfl, gD, bD⟩
                have xD := (bD.block _ (blk_lt' (unhide XC))).trans (unhide XC)
                have z0 : wD.cell? ⟨P, 0, none⟩ = some (.string (str (f 0))) := (cell_of_block xD).trans rfl
                have z1 : wD.cell? ⟨P, 1, none⟩ = some (.string (str (f 1))) := (cell_of_block xD).trans rfl
                have z2 : wD.cell? ⟨P, 2, none⟩ = some (.string (str (f 2))) := (cell_of_block xD).trans rfl
                have z3 : wD.cell? ⟨P, 3, none⟩ = some (.string (str (f 3))) := (cell_of_block xD).trans rfl
                have z4 : wD.cell? ⟨P, 4, none⟩ = some (.string (str (f 4))) := (cell_of_block xD).trans rfl
                have z5 : wD.cell? ⟨P, 5, none⟩ = some (.string (str (f 5))) := (cell_of_block xD).trans rfl
                have z6 : wD.cell? ⟨P, 6, none⟩ = some (.string (str (f 6))) := (cell_of_block xD).trans rfl
                have z7 : wD.cell? ⟨P, 7, none⟩ = some (.string (str (f 7))) := (cell_of_block xD).trans rfl
                have HO := hide (holds_any (F := f) (by omega) wD gD)
                rw [decide_eq_true (fun j _ => rfl)] at HO
                have BD := hide ((unhide B2).trans ((unhide BG _ _ _ _ _ gD.live.rest).mono (unhide B2).size))
                clear gD bD xD RO XC
                go_wp2_with fail
                refine (unhide HO).mono ?_
                rintro e wE ⟨rfl, bE⟩
                have BE := hide ((unhide BD).trans (bE.mono (unhide BD).size))
                clear bE HO
                go_wp2
                go_ret
                exact ⟨rfl, unhide BE⟩
          · have q1 : ¬ (j : Int) < ng := by omega
            by_cases h0 : np = 0
            · subst h0
              have RC := hide (rcrash (0) hz2 wr (unhide RS))
              go_wp2_with fail
              refine (unhide RC).mono ?_
              rintro e wC ⟨rfl, rC, kC⟩
              have XC := hide (box_kept1 kC (unhide LP).1.2 (unhide XB))
              have RRC := hide rC
              have BC := hide ((unhide B2).trans ((unhide BG _ _ _ _ _ rC).mono (unhide B2).size))
              clear rC kC RC
              have RO := hide (ropen wC (unhide RRC))
              clear RRC
              go_wp2_with fail
              refine (unhide RO).mono ?_
              rintro e wD ⟨cp', l', rfl, gD, bD⟩
              have xD := (bD.block _ (blk_lt' (unhide XC))).trans (unhide XC)
              have z0 : wD.cell? ⟨P, 0, none⟩ = some (.string (str (f 0))) := (cell_of_block xD).trans rfl
              have z1 : wD.cell? ⟨P, 1, none⟩ = some (.string (str (f 1))) := (cell_of_block xD).trans rfl
              have z2 : wD.cell? ⟨P, 2, none⟩ = some (.string (str (f 2))) := (cell_of_block xD).trans rfl
              have z3 : wD.cell? ⟨P, 3, none⟩ = some (.string (str (f 3))) := (cell_of_block xD).trans rfl
              have z4 : wD.cell? ⟨P, 4, none⟩ = some (.string (str (f 4))) := (cell_of_block xD).trans rfl
              have z5 : wD.cell? ⟨P, 5, none⟩ = some (.string (str (f 5))) := (cell_of_block xD).trans rfl
              have z6 : wD.cell? ⟨P, 6, none⟩ = some (.string (str (f 6))) := (cell_of_block xD).trans rfl
              have z7 : wD.cell? ⟨P, 7, none⟩ = some (.string (str (f 7))) := (cell_of_block xD).trans rfl
              have HO := hide (holds_any (F := f) (by omega) wD gD)
              rw [decide_eq_true (fun j _ => rfl)] at HO
              have BD := hide ((unhide B2).trans ((unhide BG _ _ _ _ _ gD.live.rest).mono (unhide B2).size))
              clear gD bD xD RO XC
              go_wp2_with fail
              refine (unhide HO).mono ?_
              rintro e wE ⟨rfl, bE⟩
              have BE := hide ((unhide BD).trans (bE.mono (unhide BD).size))
              clear bE HO
              go_wp2
              go_ret
              exact ⟨rfl, unhide BE⟩
            · have h0' : (0 : Int) < np := by omega
              obtain ⟨aP, haP, cP, -, -⟩ := unhide PP wr (unhide BQ) 0 (by rw [unhide ENP]; omega)
              subst haP
              obtain ⟨pk, hpk⟩ : ∃ pk, ps.getD 0 0 = pk := ⟨_, rfl⟩
              rw [hpk] at cP
              have cP' : wr.cell? aP = some (.int .i64 pk) := by simpa [Addr.add] using cP
              clear hpk
              have RC := hide (rcrash (pk) hz2 wr (unhide RS))
              go_wp2_with fail
              refine (unhide RC).mono ?_
              rintro e wC ⟨rfl, rC, kC⟩
              have XC := hide (box_kept1 kC (unhide LP).1.2 (unhide XB))
              have RRC := hide rC
              have BC := hide ((unhide B2).trans ((unhide BG _ _ _ _ _ rC).mono (unhide B2).size))
              clear rC kC RC
              have RO := hide (ropen wC (unhide RRC))
              clear RRC
              go_wp2_with fail
              refine (unhide RO).mono ?_
              rintro e wD ⟨cp', l', rfl, gD, bD⟩
              have xD := (bD.block _ (blk_lt' (unhide XC))).trans (unhide XC)
              have z0 : wD.cell? ⟨P, 0, none⟩ = some (.string (str (f 0))) := (cell_of_block xD).trans rfl
              have z1 : wD.cell? ⟨P, 1, none⟩ = some (.string (str (f 1))) := (cell_of_block xD).trans rfl
              have z2 : wD.cell? ⟨P, 2, none⟩ = some (.string (str (f 2))) := (cell_of_block xD).trans rfl
              have z3 : wD.cell? ⟨P, 3, none⟩ = some (.string (str (f 3))) := (cell_of_block xD).trans rfl
              have z4 : wD.cell? ⟨P, 4, none⟩ = some (.string (str (f 4))) := (cell_of_block xD).trans rfl
              have z5 : wD.cell? ⟨P, 5, none⟩ = some (.string (str (f 5))) := (cell_of_block xD).trans rfl
              have z6 : wD.cell? ⟨P, 6, none⟩ = some (.string (str (f 6))) := (cell_of_block xD).trans rfl
              have z7 : wD.cell? ⟨P, 7, none⟩ = some (.string (str (f 7))) := (cell_of_block xD).trans rfl
              have HO := hide (holds_any (F := f) (by omega) wD gD)
              rw [decide_eq_true (fun j _ => rfl)] at HO
              have BD := hide ((unhide B2).trans ((unhide BG _ _ _ _ _ gD.live.rest).mono (unhide B2).size))
              clear gD bD xD RO XC
              go_wp2_with fail
              refine (unhide HO).mono ?_
              rintro e wE ⟨rfl, bE⟩
              have BE := hide ((unhide BD).trans (bE.mono (unhide BD).size))
              clear bE HO
              go_wp2
              go_ret
              exact ⟨rfl, unhide BE⟩
    · have q1 : ¬ (m : Int) < nr := by omega
      go_wp2_with fail
      obtain ⟨wq, hwq⟩ : ∃ wq, wq = wr := ⟨_, rfl⟩
      subst hwq
      go_loopw [17, 18] (fun i _ wr => ∃ (j : Nat) (lf : Int) (dd : Bool), j ≤ 4 ∧ i = .int .i64 j ∧ Rest w2.heap.size w2 wr w2.heap.size g a f (8 * m) lf dd ∧ wr.heap[P]? = some (.cells (arr8 f) 34 (0, 0))) (fun i _ _ => 4 - (intOf i).toNat)
      case atStart => exact ⟨0, _, _, Nat.zero_le _, rfl, (unhide LV).rest, unhide X1⟩
      case round =>
        clear q1 h1
        obtain ⟨j, lf, dd, hj, rfl, hrest, hbx⟩ := hrel
        have RS := hide hrest
        have XB := hide hbx
        have BQ := hide ((unhide B2).trans ((unhide BG _ _ _ _ _ hrest).mono (unhide B2).size))
        clear hrest hbx
        by_cases h1 : j < ng
        · have q1 : (j : Int) < ng := by omega
          by_cases h4 : j < 4
          · have q4 : (j : Int) < 4 := by omega
            by_cases h5 : j < np
            · have q5 : (j : Int) < np := by omega
              obtain ⟨aP, haP, cP, -, -⟩ := unhide PP wr (unhide BQ) j (by rw [unhide ENP]; exact h5)
              subst haP
              obtain ⟨pk, hpk⟩ : ∃ pk, ps.getD j 0 = pk := ⟨_, rfl⟩
              rw [hpk] at cP
              clear hpk
              have RC := hide (rcrash (pk) hz2 wr (unhide RS))
              go_wp2_with fail
              refine (unhide RC).mono ?_
              rintro e wC ⟨rfl, rC, kC⟩
              have XC := hide (box_kept1 kC (unhide LP).1.2 (unhide XB))
              have RRC := hide rC
              have BC := hide ((unhide B2).trans ((unhide BG _ _ _ _ _ rC).mono (unhide B2).size))
              clear rC kC RC
              obtain ⟨aG, haG, cG, -, -⟩ := unhide GG wC (unhide BC) j (by rw [unhide ENG]; exact h1)
              subst haG
              obtain ⟨y, hy, WM⟩ := within_nat (gs.getD j 0) 4 wC (by decide) (by decide)
              obtain ⟨z, hzz⟩ : ∃ z, gs.getD j 0 = z := ⟨_, rfl⟩
              rw [hzz] at cG WM
              have WMH := hide WM
              have SS := hide (rstop (1 + (y : Int)) hz2 wC (unhide RRC))
              clear WM hzz RRC
              go_wp2_with fail
              refine (unhide WMH).mono ?_
              rintro e wz ⟨rfl, hw⟩
              replace hw := hw.symm
              subst hw
              clear WMH
              go_wp2_with fail
              refine (unhide SS).mono ?_
              rintro e wS ⟨rfl, rS, kS⟩
              have XS := hide (box_kept1 kS (unhide LP).1.2 (unhide XC))
              have RO := hide (ropenL wS rS)
              clear rS kS SS XC cG
              go_wp2_with fail
              refine (unhide RO).mono ?_
              rintro e wO ⟨v, rfl, rO, bO⟩
              have FIN : Hid (Rest w2.heap.size w2 wO w2.heap.size g a f (8 * m) (1 + (y : Int)) false ∧ wO.heap[P]? = some (.cells (arr8 f) 34 (0, 0))) := ⟨rO, (bO.block _ (blk_lt' (unhide XS))).trans (unhide XS)⟩
              clear rO bO RO XS
              go_wp2
              go_roundw
              case rel => exact ⟨j + 1, _, _, by omega, by go_num, unhide FIN⟩
              case measure => simp [intOf]; omega
            · have q5 : ¬ (j : Int) < np := by omega
              have RC := hide (rcrash (0) hz2 wr (unhide RS))
              go_wp2_with fail
              refine (unhide RC).mono ?_
              rintro e wC ⟨rfl, rC, kC⟩
              have XC := hide (box_kept1 kC (unhide LP).1.2 (unhide XB))
              have RRC := hide rC
              have BC := hide ((unhide B2).trans ((unhide BG _ _ _ _ _ rC).mono (unhide B2).size))
              clear rC kC RC
              obtain ⟨aG, haG, cG, -, -⟩ := unhide GG wC (unhide BC) j (by rw [unhide ENG]; exact h1)
              subst haG
              obtain ⟨y, hy, WM⟩ := within_nat (gs.getD j 0) 4 wC (by decide) (by decide)
              obtain ⟨z, hzz⟩ : ∃ z, gs.getD j 0 = z := ⟨_, rfl⟩
              rw [hzz] at cG WM
              have WMH := hide WM
              have SS := hide (rstop (1 + (y : Int)) hz2 wC (unhide RRC))
              clear WM hzz RRC
              go_wp2_with fail
              refine (unhide WMH).mono ?_
              rintro e wz ⟨rfl, hw⟩
              replace hw := hw.symm
              subst hw
              clear WMH
              go_wp2_with fail
              refine (unhide SS).mono ?_
              rintro e wS ⟨rfl, rS, kS⟩
              have XS := hide (box_kept1 kS (unhide LP).1.2 (unhide XC))
              have RO := hide (ropenL wS rS)
              clear rS kS SS XC cG
              go_wp2_with fail
              refine (unhide RO).mono ?_
              rintro e wO ⟨v, rfl, rO, bO⟩
              have FIN : Hid (Rest w2.heap.size w2 wO w2.heap.size g a f (8 * m) (1 + (y : Int)) false ∧ wO.heap[P]? = some (.cells (arr8 f) 34 (0, 0))) := ⟨rO, (bO.block _ (blk_lt' (unhide XS))).trans (unhide XS)⟩
              clear rO bO RO XS
              go_wp2
              go_roundw
              case rel => exact ⟨j + 1, _, _, by omega, by go_num, unhide FIN⟩
              case measure => simp [intOf]; omega
          · have q4 : ¬ (j : Int) < 4 := by omega
            by_cases h0 : np = 0
            · subst h0
              have RC := hide (rcrash (0) hz2 wr (unhide RS))
              go_wp2_with fail
              refine (unhide RC).mono ?_
              rintro e wC ⟨rfl, rC, kC⟩
              have XC := hide (box_kept1 kC (unhide LP).1.2 (unhide XB))
              have RRC := hide rC
              have BC := hide ((unhide B2).trans ((unhide BG _ _ _ _ _ rC).mono (unhide B2).size))
              clear rC kC RC
              have RO := hide (ropen wC (unhide RRC))
              clear RRC
              go_wp2_with fail
              refine (unhide RO).mono ?_
              rintro e wD ⟨cp', l', rfl, gD, bD⟩
              have xD := (bD.block _ (blk_lt' (unhide XC))).trans (unhide XC)
              have z0 : wD.cell? ⟨P, 0, none⟩ = some (.string (str (f 0))) := (cell_of_block xD).trans rfl
              have z1 : wD.cell? ⟨P, 1, none⟩ = some (.string (str (f 1))) := (cell_of_block xD).trans rfl
              have z2 : wD.cell? ⟨P, 2, none⟩ = some (.string (str (f 2))) := (cell_of_block xD).trans rfl
              have z3 : wD.cell? ⟨P, 3, none⟩ = some (.string (str (f 3))) := (cell_of_block xD).trans rfl
              have z4 : wD.cell? ⟨P, 4, none⟩ = some (.string (str (f 4))) := (cell_of_block xD).trans rfl
              have z5 : wD.cell? ⟨P, 5, none⟩ = some (.string (str (f 5))) := (cell_of_block xD).trans rfl
              have z6 : wD.cell? ⟨P, 6, none⟩ = some (.string (str (f 6))) := (cell_of_block xD).trans rfl
              have z7 : wD.cell? ⟨P, 7, none⟩ = some (.string (str (f 7))) := (cell_of_block xD).trans rfl
              have HO := hide (holds_any (F := f) (by omega) wD gD)
              rw [decide_eq_true (fun j _ => rfl)] at HO
              have BD := hide ((unhide B2).trans ((unhide BG _ _ _ _ _ gD.live.rest).mono (unhide B2).size))
              clear gD bD xD RO XC
              go_wp2_with fail
              refine (unhide HO).mono ?_
              rintro e wE ⟨rfl, bE⟩
              have BE := hide ((unhide BD).trans (bE.mono (unhide BD).size))
              clear bE HO
              go_wp2
              go_ret
              exact ⟨rfl, unhide BE⟩
            · have h0' : (0 : Int) < np := by omega
              obtain ⟨aP, haP, cP, -, -⟩ := unhide PP wr (unhide BQ) 0 (by rw [unhide ENP]; omega)
              subst haP
              obtain ⟨pk, hpk⟩ : ∃ pk, ps.getD 0 0 = pk := ⟨_, rfl⟩
              rw [hpk] at cP
              have cP' : wr.cell? aP = some (.int .i64 pk) := by simpa [Addr.add] using cP
              clear hpk
              have RC := hide (rcrash (pk) hz2 wr (unhide RS))
              go_wp2_with fail
              refine (unhide RC).mono ?_
              rintro e wC ⟨rfl, rC, kC⟩
              have XC := hide (box_kept1 kC (unhide LP).1.2 (unhide XB))
              have RRC := hide rC
              have BC := hide ((unhide B2).trans ((unhide BG _ _ _ _ _ rC).mono (unhide B2).size))
              clear rC kC RC
              have RO := hide (ropen wC (unhide RRC))
              clear RRC
              go_wp2_with fail
              refine (unhide RO).mono ?_
              rintro e wD ⟨cp', l', rfl, gD, bD⟩
              have xD := (bD.block _ (blk_lt' (unhide XC))).trans (unhide XC)
              have z0 : wD.cell? ⟨P, 0, none⟩ = some (.string (str (f 0))) := (cell_of_block xD).trans rfl
              have z1 : wD.cell? ⟨P, 1, none⟩ = some (.string (str (f 1))) := (cell_of_block xD).trans rfl
              have z2 : wD.cell? ⟨P, 2, none⟩ = some (.string (str (f 2))) := (cell_of_block xD).trans rfl
              have z3 : wD.cell? ⟨P, 3, none⟩ = some (.string (str (f 3))) := (cell_of_block xD).trans rfl
              have z4 : wD.cell? ⟨P, 4, none⟩ = some (.string (str (f 4))) := (cell_of_block xD).trans rfl
              have z5 : wD.cell? ⟨P, 5, none⟩ = some (.string (str (f 5))) := (cell_of_block xD).trans rfl
              have z6 : wD.cell? ⟨P, 6, none⟩ = some (.string (str (f 6))) := (cell_of_block xD).trans rfl
              have z7 : wD.cell? ⟨P, 7, none⟩ = some (.string (str (f 7))) := (cell_of_block xD).trans rfl
              have HO := hide (holds_any (F := f) (by omega) wD gD)
              rw [decide_eq_true (fun j _ => rfl)] at HO
              have BD := hide ((unhide B2).trans ((unhide BG _ _ _ _ _ gD.live.rest).mono (unhide B2).size))
              clear gD bD xD RO XC
              go_wp2_with fail
              refine (unhide HO).mono ?_
              rintro e wE ⟨rfl, bE⟩
              have BE := hide ((unhide BD).trans (bE.mono (unhide BD).size))
              clear bE HO
              go_wp2
              go_ret
              exact ⟨rfl, unhide BE⟩
        · have q1 : ¬ (j : Int) < ng := by omega
          by_cases h0 : np = 0
          · subst h0
            have RC := hide (rcrash (0) hz2 wr (unhide RS))
            go_wp2_with fail
            refine (unhide RC).mono ?_
            rintro e wC ⟨rfl, rC, kC⟩
            have XC := hide (box_kept1 kC (unhide LP).1.2 (unhide XB))
            have RRC := hide rC
            have BC := hide ((unhide B2).trans ((unhide BG _ _ _ _ _ rC).mono (unhide B2).size))
            clear rC kC RC
            have RO := hide (ropen wC (unhide RRC))
            clear RRC
            go_wp2_with fail
            refine (unhide RO).mono ?_
            rintro e wD ⟨cp', l', rfl, gD, bD⟩
            have xD := (bD.block _ (blk_lt' (unhide XC))).trans (unhide XC)
            have z0 : wD.cell? ⟨P, 0, none⟩ = some (.string (str (f 0))) := (cell_of_block xD).trans rfl
            have z1 : wD.cell? ⟨P, 1, none⟩ = some (.string (str (f 1))) := (cell_of_block xD).trans rfl
            have z2 : wD.cell? ⟨P, 2, none⟩ = some (.string (str (f 2))) := (cell_of_block xD).trans rfl
            have z3 : wD.cell? ⟨P, 3, none⟩ = some (.string (str (f 3))) := (cell_of_block xD).trans rfl
            have z4 : wD.cell? ⟨P, 4, none⟩ = some (.string (str (f 4))) := (cell_of_block xD).trans rfl
            have z5 : wD.cell? ⟨P, 5, none⟩ = some (.string (str (f 5))) := (cell_of_block xD).trans rfl
            have z6 : wD.cell? ⟨P, 6, none⟩ = some (.string (str (f 6))) := (cell_of_block xD).trans rfl
            have z7 : wD.cell? ⟨P, 7, none⟩ = some (.string (str (f 7))) := (cell_of_block xD).trans rfl
            have HO := hide (holds_any (F := f) (by omega) wD gD)
            rw [decide_eq_true (fun j _ => rfl)] at HO
            have BD := hide ((unhide B2).trans ((unhide BG _ _ _ _ _ gD.live.rest).mono (unhide B2).size))
            clear gD bD xD RO XC
            go_wp2_with fail
            refine (unhide HO).mono ?_
            rintro e wE ⟨rfl, bE⟩
            have BE := hide ((unhide BD).trans (bE.mono (unhide BD).size))
            clear bE HO
            go_wp2
            go_ret
            exact ⟨rfl, unhide BE⟩
          · have h0' : (0 : Int) < np := by omega
            obtain ⟨aP, haP, cP, -, -⟩ := unhide PP wr (unhide BQ) 0 (by rw [unhide ENP]; omega)
            subst haP
            obtain ⟨pk, hpk⟩ : ∃ pk, ps.getD 0 0 = pk := ⟨_, rfl⟩
            rw [hpk] at cP
            have cP' : wr.cell? aP = some (.int .i64 pk) := by simpa [Addr.add] using cP
            clear hpk
            have RC := hide (rcrash (pk) hz2 wr (unhide RS))
            go_wp2_with fail
            refine (unhide RC).mono ?_
            rintro e wC ⟨rfl, rC, kC⟩
            have XC := hide (box_kept1 kC (unhide LP).1.2 (unhide XB))
            have RRC := hide rC
            have BC := hide ((unhide B2).trans ((unhide BG _ _ _ _ _ rC).mono (unhide B2).size))
            clear rC kC RC
            have RO := hide (ropen wC (unhide RRC))
            clear RRC
            go_wp2_with fail
            refine (unhide RO).mono ?_
            rintro e wD ⟨cp', l', rfl, gD, bD⟩
            have xD := (bD.block _ (blk_lt' (unhide XC))).trans (unhide XC)
            have z0 : wD.cell? ⟨P, 0, none⟩ = some (.string (str (f 0))) := (cell_of_block xD).trans rfl
            have z1 : wD.cell? ⟨P, 1, none⟩ = some (.string (str (f 1))) := (cell_of_block xD).trans rfl
            have z2 : wD.cell? ⟨P, 2, none⟩ = some (.string (str (f 2))) := (cell_of_block xD).trans rfl
            have z3 : wD.cell? ⟨P, 3, none⟩ = some (.string (str (f 3))) := (cell_of_block xD).trans rfl
            have z4 : wD.cell? ⟨P, 4, none⟩ = some (.string (str (f 4))) := (cell_of_block xD).trans rfl
            have z5 : wD.cell? ⟨P, 5, none⟩ = some (.string (str (f 5))) := (cell_of_block xD).trans rfl
            have z6 : wD.cell? ⟨P, 6, none⟩ = some (.string (str (f 6))) := (cell_of_block xD).trans rfl
            have z7 : wD.cell? ⟨P, 7, none⟩ = some (.string (str (f 7))) := (cell_of_block xD).trans rfl
            have HO := hide (holds_any (F := f) (by omega) wD gD)
            rw [decide_eq_true (fun j _ => rfl)] at HO
            have BD := hide ((unhide B2).trans ((unhide BG _ _ _ _ _ gD.live.rest).mono (unhide B2).size))
            clear gD bD xD RO XC
            go_wp2_with fail
            refine (unhide HO).mono ?_
            rintro e wE ⟨rfl, bE⟩
            have BE := hide ((unhide BD).trans (bE.mono (unhide BD).size))
            clear bE HO
            go_wp2
            go_ret
            exact ⟨rfl, unhide BE⟩
end Go.Proofs.YtaggbpfpheffpaaGreatDoor

/- CellsEnds: the walk. -/
import Derived.Test.YtaggbpfpheffpaaGreatDoorCEndA
import Derived.Test.YtaggbpfpheffpaaGreatDoorCArgs
namespace Go.Proofs.YtaggbpfpheffpaaGreatDoor
open Go.RowKit Go.Maps

theorem goods_len (l : List (Int × List Nat)) : ∀ out, (l.foldl addG out).length ≤ out.length + l.length := by
  induction l with
  | nil => intro out; exact Nat.le_refl _
  | cons c l ih =>
    intro out
    have h1 := ih (addG out c)
    have h2 := addG_len out c
    simp only [List.foldl_cons, List.length_cons]
    omega
theorem good_eight (l : List (Int × List Nat)) : (goodOf (l.take 8)).length ≤ 8 := by
  have h := goods_len (l.take 8) []
  have h2 : (l.take 8).length ≤ 8 := by rw [List.length_take]; exact Nat.min_le_left _ _
  simp only [List.length_nil] at h
  unfold goodOf
  omega

theorem Live.lt {base : Nat} {w0 w : World} {cp l p : Nat} {g a : Addr} {f : Int → List Nat} {k : Nat} {left : Int} {dead : Bool} (h : Live base w0 w cp l p g a f k left dead) : (l < w.heap.size ∧ p < w.heap.size) ∧ cp < w.heap.size := by
  obtain ⟨b, c, q, n, ops, h1, h2, -⟩ := h
  exact ⟨⟨blk_lt' h2.2.1, (h2.lt p (Or.inr (Or.inl rfl))).2⟩, blk_lt' h1.2.1⟩

theorem box_kept {w w' : World} {base P l p cp : Nat} {xs : Array Value} {t : TypeId} {fr : Nat × Nat} (hk : Kept base (fun j => (j = l ∨ j = p) ∨ j = cp) w w') (hP : (P ≠ l ∧ P ≠ p) ∧ P ≠ cp) (h : w.heap[P]? = some (.cells xs t fr)) : w'.heap[P]? = some (.cells xs t fr) :=
  (hk.2 P (blk_lt' h) (fun h => h.elim (fun h => h.elim hP.1.1 hP.1.2) hP.2)).trans h
theorem box_kept1 {w w' : World} {base P p : Nat} {xs : Array Value} {t : TypeId} {fr : Nat × Nat} (hk : Kept base (fun j => j = p) w w') (hP : P ≠ p) (h : w.heap[P]? = some (.cells xs t fr)) : w'.heap[P]? = some (.cells xs t fr) :=
  (hk.2 P (blk_lt' h) hP).trans h
theorem box8_kept {w y : World} {base P : Nat} (hb : Kept base (fun j => j = P) w y) (hB : base ≤ P) (v0 v1 v2 v3 v4 v5 v6 v7 : Value) : Kept base (fun j => j = P) w (box8 y P v0 v1 v2 v3 v4 v5 v6 v7) := by
  unfold box8
  exact (((((((hb.setCell (p := ⟨P, 0, none⟩) hB rfl v0).setCell (p := ⟨P, 1, none⟩) hB rfl v1).setCell (p := ⟨P, 2, none⟩) hB rfl v2).setCell (p := ⟨P, 3, none⟩) hB rfl v3).setCell (p := ⟨P, 4, none⟩) hB rfl v4).setCell (p := ⟨P, 5, none⟩) hB rfl v5).setCell (p := ⟨P, 6, none⟩) hB rfl v6).setCell (p := ⟨P, 7, none⟩) hB rfl v7
theorem Tp.far {base : Nat} {w : World} {p : Nat} {q : Option Nat} {s : St} (h : Tp base w p q s) {k : Nat} {xs : Array Value} {fr : Nat × Nat} (hk : w.heap[k]? = some (.cells xs 34 fr)) : ¬ foot p q k := by
  obtain ⟨v, hv, _, hp, hown, _⟩ := h
  rintro (rfl | e)
  · rw [hk] at hp; cases hp
  · exact hown.ne hk (by decide) k (hv.trans e) rfl
theorem Rest.size {base : Nat} {w0 w : World} {p : Nat} {g a : Addr} {f : Int → List Nat} {k : Nat} {left : Int} {dead : Bool} (h : Rest base w0 w p g a f k left dead) : base ≤ w.heap.size := by
  obtain ⟨_, _, _, _, _, _, _, _, _, _, _, h10⟩ := h
  exact h10
theorem Rest.kept {base : Nat} {w0 w w' : World} {p P : Nat} {g a : Addr} {f : Int → List Nat} {k : Nat} {left : Int} {dead : Bool} {xs : Array Value} {fr : Nat × Nat} (h : Rest base w0 w p g a f k left dead) (hk : Kept base (fun j => j = P) w w') (hx : w.heap[P]? = some (.cells xs 34 fr)) (hP : P ≠ p) (hz : 4 ≤ base) : Rest base w0 w' p g a f k left dead := by
  obtain ⟨q, n, ops, h1, h3, h4, h5, h6, h7, h8, h9, h10⟩ := h
  exact ⟨q, n, ops, h1.kept hk (fun e => hP e.symm) (fun j hj e => h1.far hx (Or.inr (by rw [← e]; exact hj))), h3, h4, h5, h6, h7, h8.keptd hk hz, h9.trans hk.1, Nat.le_trans h10 hk.1.size⟩
set_option maxRecDepth 20000 in
set_option maxHeartbeats 4000000 in
theorem ends_walk (al bl : Option Addr) (na ca nb cb : Nat) (la lb : List (Int × List Nat)) (hna : la.length = na) (hnb : lb.length = nb) (hma : na ≤ maxLen) (hmb : nb ≤ maxLen) (hla : ∀ c ∈ la, c.2.length ≤ maxLen) (hlb : ∀ c ∈ lb, c.2.length ≤ maxLen) (stop : Bool) (g a : Addr) (w : World) (hS : Start w g a) (hA : CAt w al la) (hB : CAt w bl lb) :
    Calls Tryz.prog 8 #[.slice al na ca, .slice bl nb cb, .bool stop] w fun ev w' => ev = .returned (.bool true) ∧ Below w.heap.size w w' := by
  have HS := hide hS
  have hz := hS.low
  have KN := hide (cknown_any g a w hS)
  have GA := hide (fun (Y : World) (h : Below w.heap.size w Y) => good_any al na ca la hna hma hla Y (hA.below h))
  have GB := hide (fun (Y : World) (h : Below w.heap.size w Y) => good_any bl nb cb lb hnb hmb hlb Y (hB.below h))
  obtain ⟨A, hAe⟩ : ∃ A, goodOf (la.take 8) = A := ⟨_, rfl⟩
  obtain ⟨B, hBe⟩ : ∃ B, goodOf (lb.take 8) = B := ⟨_, rfl⟩
  have FA : Hid (Fine A) := by rw [← hAe]; exact fine_good _
  have FB : Hid (Fine B) := by rw [← hBe]; exact fine_good _
  have lA8 : A.length ≤ 8 := by rw [← hAe]; exact good_eight _
  have lB8 : B.length ≤ 8 := by rw [← hBe]; exact good_eight _
  rw [hAe] at GA
  rw [hBe] at GB
  obtain ⟨nA, hnA⟩ : ∃ nA, A.length = nA := ⟨_, rfl⟩
  obtain ⟨nB, hnB⟩ : ∃ nB, B.length = nB := ⟨_, rfl⟩
  rw [hnA] at GA lA8
  rw [hnB] at GB lB8
  have HNA := hide hnA
  have HNB := hide hnB
  clear hS hA hB hna hnb hma hmb hla hlb hAe hBe hnA hnB
  go_enter Tryz.func8, Tryz.ntmps8
  go_wp2_with fail
  refine (unhide KN).mono ?_
  rintro e w0 ⟨rfl, b0⟩
  have B0 := hide b0
  clear b0 KN
  go_wp2_with fail
  refine (unhide GA w0 (unhide B0)).mono ?_
  rintro e w1 ⟨aA, cA, rfl, -, at1, b1⟩
  have B1 := hide ((unhide B0).trans (b1.mono (unhide B0).size))
  have AT1 := hide at1
  clear at1 b1 GA
  go_wp2_with fail
  refine (unhide GB w1 (unhide B1)).mono ?_
  rintro e w2 ⟨aB, cB, rfl, -, at2, b2⟩
  have B2 := hide ((unhide B1).trans (b2.mono (unhide B1).size))
  have AA := hide (fun (Y : World) (h : Below w2.heap.size w2 Y) => ((unhide AT1).below b2).below h)
  have AB := hide (fun (Y : World) (h : Below w2.heap.size w2 Y) => at2.below h)
  have S2 := hide ((unhide HS).below (unhide B2))
  have hz2 : 4 ≤ w2.heap.size := Nat.le_trans hz (unhide B2).size
  clear at2 b2 GB AT1 HS
  go_wp2_with fail
  refine (new_ok 400000 w2 (by decide) (by decide)).mono ?_
  rintro e w3 ⟨rfl, t3, b3⟩
  have HC := hide (gfirst w2 w3 t3 ((unhide S2).below b3) b3.size b3)
  clear t3 b3 S2
  go_wp2_with fail
  refine (unhide HC).mono ?_
  rintro e w4 ⟨cp, l, rfl, g4, -⟩
  have BG := hide (fun (Y : World) (f : Int → List Nat) (k : Nat) (left : Int) (dead : Bool) (h : Rest w2.heap.size w2 Y w2.heap.size g a f k left dead) => show Below w2.heap.size w2 Y from by
    obtain ⟨_, _, _, _, _, _, _, _, _, _, h9, _⟩ := h
    exact h9)
  have P4 := hide (gputs A (unhide FA) nA (unhide HNA) (by omega) aA cA (by decide) hz2 w4 g4 (unhide AA w4 (unhide BG _ _ _ _ _ g4.live.rest)))
  clear g4 HC
  go_wp2_with fail
  refine (unhide P4).mono ?_
  rintro e w5 ⟨rfl, g5, -⟩
  obtain ⟨P, hP⟩ : ∃ P, w5.heap.size = P := ⟨_, rfl⟩
  have LT : Hid ((P ≠ l ∧ P ≠ w2.heap.size) ∧ P ≠ cp) := by
    have := g5.live.lt
    show (P ≠ l ∧ P ≠ w2.heap.size) ∧ P ≠ cp
    omega
  have PL0 : Hid (w2.heap.size ≤ P) := by
    obtain ⟨_, _, _, _, _, _, _, _, _, _, _, _, _, _, h10⟩ := g5
    show w2.heap.size ≤ P
    omega
  obtain ⟨U, hU⟩ : ∃ U, w5.alloc (.cells #[.string ⟨#[]⟩, .string ⟨#[]⟩, .string ⟨#[]⟩, .string ⟨#[]⟩, .string ⟨#[]⟩, .string ⟨#[]⟩, .string ⟨#[]⟩, .string ⟨#[]⟩] 34) = U := ⟨_, rfl⟩
  have bU : Below w5.heap.size w5 U := by rw [← hU]; exact (Below.refl _ w5).alloc (Nat.le_refl _) _
  have xU : U.heap[P]? = some (.cells #[.string ⟨#[]⟩, .string ⟨#[]⟩, .string ⟨#[]⟩, .string ⟨#[]⟩, .string ⟨#[]⟩, .string ⟨#[]⟩, .string ⟨#[]⟩, .string ⟨#[]⟩] 34 (0, 0)) := by rw [← hU, ← hP]; exact heap_alloc_new _ _
  have SP := hide (sput_any noF aA nA cA A (unhide HNA) (by omega) (unhide FA).keys U (unhide AA U (unhide BG _ _ _ _ _ (g5.below bU).live.rest)))
  obtain ⟨F1, hF1⟩ : ∃ F1, setF noF A = F1 := ⟨_, rfl⟩
  rw [hF1] at SP g5
  have G5 := hide g5
  have HU := hide hU
  have BU := hide bU
  have XU := hide xU
  have HP := hide hP
  clear g5 P4 hU bU xU hF1 hP
  go_wp2_with fail
  rw [unhide HU, unhide HP]
  refine (unhide SP).mono ?_
  rintro e w6 ⟨rfl, b6⟩
  have x6 := (b6.block _ (blk_lt' (unhide XU))).trans (unhide XU)
  have r0 : w6.cell? ⟨P, 0, none⟩ = some (.string ⟨#[]⟩) := (cell_of_block x6).trans rfl
  have r1 : w6.cell? ⟨P, 1, none⟩ = some (.string ⟨#[]⟩) := (cell_of_block x6).trans rfl
  have r2 : w6.cell? ⟨P, 2, none⟩ = some (.string ⟨#[]⟩) := (cell_of_block x6).trans rfl
  have r3 : w6.cell? ⟨P, 3, none⟩ = some (.string ⟨#[]⟩) := (cell_of_block x6).trans rfl
  have r4 : w6.cell? ⟨P, 4, none⟩ = some (.string ⟨#[]⟩) := (cell_of_block x6).trans rfl
  have r5 : w6.cell? ⟨P, 5, none⟩ = some (.string ⟨#[]⟩) := (cell_of_block x6).trans rfl
  have r6 : w6.cell? ⟨P, 6, none⟩ = some (.string ⟨#[]⟩) := (cell_of_block x6).trans rfl
  have r7 : w6.cell? ⟨P, 7, none⟩ = some (.string ⟨#[]⟩) := (cell_of_block x6).trans rfl
  have g0 : w6.frozen? ⟨P, 0, none⟩ = false := free_of_block x6
  have g1 : w6.frozen? ⟨P, 1, none⟩ = false := free_of_block x6
  have g2 : w6.frozen? ⟨P, 2, none⟩ = false := free_of_block x6
  have g3 : w6.frozen? ⟨P, 3, none⟩ = false := free_of_block x6
  have g4 : w6.frozen? ⟨P, 4, none⟩ = false := free_of_block x6
  have g5 : w6.frozen? ⟨P, 5, none⟩ = false := free_of_block x6
  have g6 : w6.frozen? ⟨P, 6, none⟩ = false := free_of_block x6
  have g7 : w6.frozen? ⟨P, 7, none⟩ = false := free_of_block x6
  have e8 := box8_box x6 (.string (str (F1 0))) (.string (str (F1 1))) (.string (str (F1 2))) (.string (str (F1 3))) (.string (str (F1 4))) (.string (str (F1 5))) (.string (str (F1 6))) (.string (str (F1 7)))
  have b8 := box8_below (w := w5) (B := P) ((unhide BU).trans (b6.mono (unhide BU).size)) (Nat.le_of_eq (unhide HP)) (.string (str (F1 0))) (.string (str (F1 1))) (.string (str (F1 2))) (.string (str (F1 3))) (.string (str (F1 4))) (.string (str (F1 5))) (.string (str (F1 6))) (.string (str (F1 7)))
  obtain ⟨Z, hZ⟩ : ∃ Z, box8 w6 P (.string (str (F1 0))) (.string (str (F1 1))) (.string (str (F1 2))) (.string (str (F1 3))) (.string (str (F1 4))) (.string (str (F1 5))) (.string (str (F1 6))) (.string (str (F1 7))) = Z := ⟨_, rfl⟩
  rw [hZ] at e8 b8
  unfold box8 at hZ
  have XZ := hide e8
  have GZ := hide ((unhide G5).below b8)
  have HZ := hide hZ
  have PLOW : Hid (w2.heap.size ≤ P) := unhide PL0
  have ea : arr8 F1 = #[.string (str (F1 0)), .string (str (F1 1)), .string (str (F1 2)), .string (str (F1 3)), .string (str (F1 4)), .string (str (F1 5)), .string (str (F1 6)), .string (str (F1 7))] := rfl
  rw [ea]
  clear e8 b8 hZ b6 x6 SP HU BU XU G5 ea HP
  obtain ⟨F2, hF2⟩ : ∃ F2, setF F1 B = F2 := ⟨_, rfl⟩
  have HF2 := hide hF2
  clear hF2
  cases stop with
  | false =>
    have PB := hide (gputs B (unhide FB) nB (unhide HNB) (by omega) aB cB (by omega) hz2 Z (unhide GZ) (unhide AB Z (unhide BG _ _ _ _ _ (unhide GZ).live.rest)))
    rw [unhide HF2] at PB
    go_wp2_with fail
    rw [unhide HZ]
    refine (unhide PB).mono ?_
    rintro e w7 ⟨rfl, g7, k7⟩
    have L7 := hide g7.live
    have X7 := hide (box_kept k7 (unhide LT) (unhide XZ))
    have LOWw7 : Hid (w2.heap.size ≤ P) := unhide PLOW
    clear g7 k7 PB HZ
    have q0 : w7.cell? ⟨P, 0, none⟩ = some (.string (str (F1 0))) := (cell_of_block (unhide X7)).trans rfl
    have q1 : w7.cell? ⟨P, 1, none⟩ = some (.string (str (F1 1))) := (cell_of_block (unhide X7)).trans rfl
    have q2 : w7.cell? ⟨P, 2, none⟩ = some (.string (str (F1 2))) := (cell_of_block (unhide X7)).trans rfl
    have q3 : w7.cell? ⟨P, 3, none⟩ = some (.string (str (F1 3))) := (cell_of_block (unhide X7)).trans rfl
    have q4 : w7.cell? ⟨P, 4, none⟩ = some (.string (str (F1 4))) := (cell_of_block (unhide X7)).trans rfl
    have q5 : w7.cell? ⟨P, 5, none⟩ = some (.string (str (F1 5))) := (cell_of_block (unhide X7)).trans rfl
    have q6 : w7.cell? ⟨P, 6, none⟩ = some (.string (str (F1 6))) := (cell_of_block (unhide X7)).trans rfl
    have q7 : w7.cell? ⟨P, 7, none⟩ = some (.string (str (F1 7))) := (cell_of_block (unhide X7)).trans rfl
    have SB := hide (sput_any F1 aB nB cB B (unhide HNB) (by omega) (unhide FB).keys w7 (unhide AB w7 (unhide BG _ _ _ _ _ (unhide L7).rest)))
    have RSw7 := hide (unhide L7).rest
    rw [unhide HF2] at SB
    go_wp2_with fail
    refine (unhide SB).mono ?_
    rintro e w8 ⟨rfl, b8⟩
    have x8 := (b8.block _ (blk_lt' (unhide X7))).trans (unhide X7)
    clear q0 q1 q2 q3 q4 q5 q6 q7
    have q0 : w8.cell? ⟨P, 0, none⟩ = some (.string (str (F1 0))) := (cell_of_block x8).trans rfl
    have q1 : w8.cell? ⟨P, 1, none⟩ = some (.string (str (F1 1))) := (cell_of_block x8).trans rfl
    have q2 : w8.cell? ⟨P, 2, none⟩ = some (.string (str (F1 2))) := (cell_of_block x8).trans rfl
    have q3 : w8.cell? ⟨P, 3, none⟩ = some (.string (str (F1 3))) := (cell_of_block x8).trans rfl
    have q4 : w8.cell? ⟨P, 4, none⟩ = some (.string (str (F1 4))) := (cell_of_block x8).trans rfl
    have q5 : w8.cell? ⟨P, 5, none⟩ = some (.string (str (F1 5))) := (cell_of_block x8).trans rfl
    have q6 : w8.cell? ⟨P, 6, none⟩ = some (.string (str (F1 6))) := (cell_of_block x8).trans rfl
    have q7 : w8.cell? ⟨P, 7, none⟩ = some (.string (str (F1 7))) := (cell_of_block x8).trans rfl
    have j0 : w8.frozen? ⟨P, 0, none⟩ = false := free_of_block x8
    have j1 : w8.frozen? ⟨P, 1, none⟩ = false := free_of_block x8
    have j2 : w8.frozen? ⟨P, 2, none⟩ = false := free_of_block x8
    have j3 : w8.frozen? ⟨P, 3, none⟩ = false := free_of_block x8
    have j4 : w8.frozen? ⟨P, 4, none⟩ = false := free_of_block x8
    have j5 : w8.frozen? ⟨P, 5, none⟩ = false := free_of_block x8
    have j6 : w8.frozen? ⟨P, 6, none⟩ = false := free_of_block x8
    have j7 : w8.frozen? ⟨P, 7, none⟩ = false := free_of_block x8
    have e9 := box8_box x8 (.string (str (F2 0))) (.string (str (F2 1))) (.string (str (F2 2))) (.string (str (F2 3))) (.string (str (F2 4))) (.string (str (F2 5))) (.string (str (F2 6))) (.string (str (F2 7)))
    have b9 := box8_kept (P := P) (Kept.of_below (f := fun j => j = P) b8 (unhide RSw7).size) (unhide LOWw7) (.string (str (F2 0))) (.string (str (F2 1))) (.string (str (F2 2))) (.string (str (F2 3))) (.string (str (F2 4))) (.string (str (F2 5))) (.string (str (F2 6))) (.string (str (F2 7)))
    obtain ⟨V, hV⟩ : ∃ V, box8 w8 P (.string (str (F2 0))) (.string (str (F2 1))) (.string (str (F2 2))) (.string (str (F2 3))) (.string (str (F2 4))) (.string (str (F2 5))) (.string (str (F2 6))) (.string (str (F2 7))) = V := ⟨_, rfl⟩
    rw [hV] at e9 b9
    unfold box8 at hV
    have XV := hide e9
    have RV := hide ((unhide RSw7).kept b9 (unhide X7) (unhide LT).1.2 hz2)
    have HV := hide hV
    have ea : arr8 F2 = #[.string (str (F2 0)), .string (str (F2 1)), .string (str (F2 2)), .string (str (F2 3)), .string (str (F2 4)), .string (str (F2 5)), .string (str (F2 6)), .string (str (F2 7))] := rfl
    rw [ea]
    clear e9 b9 hV b8 x8 SB ea
    have RC := hide (rcrash 0 hz2 V (unhide RV))
    go_wp2_with fail
    rw [unhide HV]
    refine (unhide RC).mono ?_
    rintro e wC ⟨rfl, rC, kC⟩
    have xC := (kC.2 P (blk_lt' (unhide XV)) (unhide LT).1.2).trans (unhide XV)
    have RO := hide (ropen wC rC)
    have XC := hide xC
    clear rC kC xC RC
    go_wp2_with fail
    refine (unhide RO).mono ?_
    rintro e wD ⟨cp', l', rfl, gD, bD⟩
    have xD := (bD.block _ (blk_lt' (unhide XC))).trans (unhide XC)
    have z0 : wD.cell? ⟨P, 0, none⟩ = some (.string (str (F2 0))) := (cell_of_block xD).trans rfl
    have z1 : wD.cell? ⟨P, 1, none⟩ = some (.string (str (F2 1))) := (cell_of_block xD).trans rfl
    have z2 : wD.cell? ⟨P, 2, none⟩ = some (.string (str (F2 2))) := (cell_of_block xD).trans rfl
    have z3 : wD.cell? ⟨P, 3, none⟩ = some (.string (str (F2 3))) := (cell_of_block xD).trans rfl
    have z4 : wD.cell? ⟨P, 4, none⟩ = some (.string (str (F2 4))) := (cell_of_block xD).trans rfl
    have z5 : wD.cell? ⟨P, 5, none⟩ = some (.string (str (F2 5))) := (cell_of_block xD).trans rfl
    have z6 : wD.cell? ⟨P, 6, none⟩ = some (.string (str (F2 6))) := (cell_of_block xD).trans rfl
    have z7 : wD.cell? ⟨P, 7, none⟩ = some (.string (str (F2 7))) := (cell_of_block xD).trans rfl
    have HO := hide (holds_any (F := F2) (by omega) wD gD)
    rw [decide_eq_true (fun j _ => rfl)] at HO
    have BD := hide (unhide BG _ _ _ _ _ gD.live.rest)
    clear gD bD xD RO
    go_wp2_with fail
    refine (unhide HO).mono ?_
    rintro e wE ⟨rfl, bE⟩
    have BE := hide ((unhide BD).trans (bE.mono (unhide BD).size))
    clear bE HO
    go_wp2
    go_ret
    exact ⟨rfl, (unhide B2).trans ((unhide BE).mono (unhide B2).size)⟩
  | true =>
    have ST := hide (lstop 1 hz2 Z (unhide GZ).live)
    go_wp2_with fail
    rw [unhide HZ]
    refine (unhide ST).mono ?_
    rintro e w6' ⟨rfl, g6, k6⟩
    have L6 := hide g6
    have X6 := hide (box_kept1 k6 (unhide LT).1.2 (unhide XZ))
    clear g6 k6 ST HZ
    by_cases h0 : nB = 0
    · subst h0
      obtain rfl : B = [] := List.eq_nil_of_length_eq_zero (unhide HNB)
      obtain rfl : F1 = F2 := unhide HF2
      have PN := hide (Put_none cp aB cB w6')
      have LOWw6' : Hid (w2.heap.size ≤ P) := unhide PLOW
      go_wp2_with fail
      refine (unhide PN).mono ?_
      rintro e w7 ⟨rfl, hw⟩
      replace hw := hw.symm
      subst hw
      clear PN
      have q0 : w6'.cell? ⟨P, 0, none⟩ = some (.string (str (F1 0))) := (cell_of_block (unhide X6)).trans rfl
      have q1 : w6'.cell? ⟨P, 1, none⟩ = some (.string (str (F1 1))) := (cell_of_block (unhide X6)).trans rfl
      have q2 : w6'.cell? ⟨P, 2, none⟩ = some (.string (str (F1 2))) := (cell_of_block (unhide X6)).trans rfl
      have q3 : w6'.cell? ⟨P, 3, none⟩ = some (.string (str (F1 3))) := (cell_of_block (unhide X6)).trans rfl
      have q4 : w6'.cell? ⟨P, 4, none⟩ = some (.string (str (F1 4))) := (cell_of_block (unhide X6)).trans rfl
      have q5 : w6'.cell? ⟨P, 5, none⟩ = some (.string (str (F1 5))) := (cell_of_block (unhide X6)).trans rfl
      have q6 : w6'.cell? ⟨P, 6, none⟩ = some (.string (str (F1 6))) := (cell_of_block (unhide X6)).trans rfl
      have q7 : w6'.cell? ⟨P, 7, none⟩ = some (.string (str (F1 7))) := (cell_of_block (unhide X6)).trans rfl
      have SB := hide (sput_any F1 aB 0 cB [] rfl (by omega) (unhide FB).keys w6' (unhide AB w6' (unhide BG _ _ _ _ _ (unhide L6).rest)))
      have RSw6' := hide (unhide L6).rest
      rw [unhide HF2] at SB
      go_wp2_with fail
      refine (unhide SB).mono ?_
      rintro e w8 ⟨rfl, b8⟩
      have x8 := (b8.block _ (blk_lt' (unhide X6))).trans (unhide X6)
      clear q0 q1 q2 q3 q4 q5 q6 q7
      have q0 : w8.cell? ⟨P, 0, none⟩ = some (.string (str (F1 0))) := (cell_of_block x8).trans rfl
      have q1 : w8.cell? ⟨P, 1, none⟩ = some (.string (str (F1 1))) := (cell_of_block x8).trans rfl
      have q2 : w8.cell? ⟨P, 2, none⟩ = some (.string (str (F1 2))) := (cell_of_block x8).trans rfl
      have q3 : w8.cell? ⟨P, 3, none⟩ = some (.string (str (F1 3))) := (cell_of_block x8).trans rfl
      have q4 : w8.cell? ⟨P, 4, none⟩ = some (.string (str (F1 4))) := (cell_of_block x8).trans rfl
      have q5 : w8.cell? ⟨P, 5, none⟩ = some (.string (str (F1 5))) := (cell_of_block x8).trans rfl
      have q6 : w8.cell? ⟨P, 6, none⟩ = some (.string (str (F1 6))) := (cell_of_block x8).trans rfl
      have q7 : w8.cell? ⟨P, 7, none⟩ = some (.string (str (F1 7))) := (cell_of_block x8).trans rfl
      have j0 : w8.frozen? ⟨P, 0, none⟩ = false := free_of_block x8
      have j1 : w8.frozen? ⟨P, 1, none⟩ = false := free_of_block x8
      have j2 : w8.frozen? ⟨P, 2, none⟩ = false := free_of_block x8
      have j3 : w8.frozen? ⟨P, 3, none⟩ = false := free_of_block x8
      have j4 : w8.frozen? ⟨P, 4, none⟩ = false := free_of_block x8
      have j5 : w8.frozen? ⟨P, 5, none⟩ = false := free_of_block x8
      have j6 : w8.frozen? ⟨P, 6, none⟩ = false := free_of_block x8
      have j7 : w8.frozen? ⟨P, 7, none⟩ = false := free_of_block x8
      have e9 := box8_box x8 (.string (str (F1 0))) (.string (str (F1 1))) (.string (str (F1 2))) (.string (str (F1 3))) (.string (str (F1 4))) (.string (str (F1 5))) (.string (str (F1 6))) (.string (str (F1 7)))
      have b9 := box8_kept (P := P) (Kept.of_below (f := fun j => j = P) b8 (unhide RSw6').size) (unhide LOWw6') (.string (str (F1 0))) (.string (str (F1 1))) (.string (str (F1 2))) (.string (str (F1 3))) (.string (str (F1 4))) (.string (str (F1 5))) (.string (str (F1 6))) (.string (str (F1 7)))
      obtain ⟨V, hV⟩ : ∃ V, box8 w8 P (.string (str (F1 0))) (.string (str (F1 1))) (.string (str (F1 2))) (.string (str (F1 3))) (.string (str (F1 4))) (.string (str (F1 5))) (.string (str (F1 6))) (.string (str (F1 7))) = V := ⟨_, rfl⟩
      rw [hV] at e9 b9
      unfold box8 at hV
      have XV := hide e9
      have RV := hide ((unhide RSw6').kept b9 (unhide X6) (unhide LT).1.2 hz2)
      have HV := hide hV
      have ea : arr8 F1 = #[.string (str (F1 0)), .string (str (F1 1)), .string (str (F1 2)), .string (str (F1 3)), .string (str (F1 4)), .string (str (F1 5)), .string (str (F1 6)), .string (str (F1 7))] := rfl
      rw [ea]
      clear e9 b9 hV b8 x8 SB ea
      have RC := hide (rcrash 0 hz2 V (unhide RV))
      go_wp2_with fail
      rw [unhide HV]
      refine (unhide RC).mono ?_
      rintro e wC ⟨rfl, rC, kC⟩
      have xC := (kC.2 P (blk_lt' (unhide XV)) (unhide LT).1.2).trans (unhide XV)
      have RO := hide (ropen wC rC)
      have XC := hide xC
      clear rC kC xC RC
      go_wp2_with fail
      refine (unhide RO).mono ?_
      rintro e wD ⟨cp', l', rfl, gD, bD⟩
      have xD := (bD.block _ (blk_lt' (unhide XC))).trans (unhide XC)
      have z0 : wD.cell? ⟨P, 0, none⟩ = some (.string (str (F1 0))) := (cell_of_block xD).trans rfl
      have z1 : wD.cell? ⟨P, 1, none⟩ = some (.string (str (F1 1))) := (cell_of_block xD).trans rfl
      have z2 : wD.cell? ⟨P, 2, none⟩ = some (.string (str (F1 2))) := (cell_of_block xD).trans rfl
      have z3 : wD.cell? ⟨P, 3, none⟩ = some (.string (str (F1 3))) := (cell_of_block xD).trans rfl
      have z4 : wD.cell? ⟨P, 4, none⟩ = some (.string (str (F1 4))) := (cell_of_block xD).trans rfl
      have z5 : wD.cell? ⟨P, 5, none⟩ = some (.string (str (F1 5))) := (cell_of_block xD).trans rfl
      have z6 : wD.cell? ⟨P, 6, none⟩ = some (.string (str (F1 6))) := (cell_of_block xD).trans rfl
      have z7 : wD.cell? ⟨P, 7, none⟩ = some (.string (str (F1 7))) := (cell_of_block xD).trans rfl
      have HO := hide (holds_any (F := F1) (by omega) wD gD)
      rw [decide_eq_true (fun j _ => rfl)] at HO
      have BD := hide (unhide BG _ _ _ _ _ gD.live.rest)
      clear gD bD xD RO
      go_wp2_with fail
      refine (unhide HO).mono ?_
      rintro e wE ⟨rfl, bE⟩
      have BE := hide ((unhide BD).trans (bE.mono (unhide BD).size))
      clear bE HO
      go_wp2
      go_ret
      exact ⟨rfl, (unhide B2).trans ((unhide BE).mono (unhide B2).size)⟩
    · have h0' : ((nB : Int) == 0) = false := by simp; omega
      have PB := hide (lput B (unhide FB) nB (unhide HNB) (by omega) (by omega) aB cB (by omega) (by decide) hz2 w6' (unhide L6) (unhide AB w6' (unhide BG _ _ _ _ _ (unhide L6).rest)))
      go_wp2_with fail
      refine (unhide PB).mono ?_
      rintro e w7 ⟨rfl, g7, k7⟩
      have R7 : Hid (Rest w2.heap.size w2 w7 w2.heap.size g a F1 (0 + nA + nB) 0 true) := g7.rest
      have X7 := hide (box_kept k7 (unhide LT) (unhide X6))
      have et : (turn 1 false).1 = 13 := rfl
      rw [et]
      clear g7 k7 PB et
      have RC := hide (rcrash 0 hz2 w7 (unhide R7))
      go_wp2_with fail
      refine (unhide RC).mono ?_
      rintro e wC ⟨rfl, rC, kC⟩
      have xC := (kC.2 P (blk_lt' (unhide X7)) (unhide LT).1.2).trans (unhide X7)
      have RO := hide (ropen wC rC)
      have XC := hide xC
      clear rC kC xC RC
      go_wp2_with fail
      refine (unhide RO).mono ?_
      rintro e wD ⟨cp', l', rfl, gD, bD⟩
      have xD := (bD.block _ (blk_lt' (unhide XC))).trans (unhide XC)
      have z0 : wD.cell? ⟨P, 0, none⟩ = some (.string (str (F1 0))) := (cell_of_block xD).trans rfl
      have z1 : wD.cell? ⟨P, 1, none⟩ = some (.string (str (F1 1))) := (cell_of_block xD).trans rfl
      have z2 : wD.cell? ⟨P, 2, none⟩ = some (.string (str (F1 2))) := (cell_of_block xD).trans rfl
      have z3 : wD.cell? ⟨P, 3, none⟩ = some (.string (str (F1 3))) := (cell_of_block xD).trans rfl
      have z4 : wD.cell? ⟨P, 4, none⟩ = some (.string (str (F1 4))) := (cell_of_block xD).trans rfl
      have z5 : wD.cell? ⟨P, 5, none⟩ = some (.string (str (F1 5))) := (cell_of_block xD).trans rfl
      have z6 : wD.cell? ⟨P, 6, none⟩ = some (.string (str (F1 6))) := (cell_of_block xD).trans rfl
      have z7 : wD.cell? ⟨P, 7, none⟩ = some (.string (str (F1 7))) := (cell_of_block xD).trans rfl
      have HO := hide (holds_any (F := F1) (by omega) wD gD)
      rw [decide_eq_true (fun j _ => rfl)] at HO
      have BD := hide (unhide BG _ _ _ _ _ gD.live.rest)
      clear gD bD xD RO
      go_wp2_with fail
      refine (unhide HO).mono ?_
      rintro e wE ⟨rfl, bE⟩
      have BE := hide ((unhide BD).trans (bE.mono (unhide BD).size))
      clear bE HO
      go_wp2
      go_ret
      exact ⟨rfl, (unhide B2).trans ((unhide BE).mono (unhide B2).size)⟩
end Go.Proofs.YtaggbpfpheffpaaGreatDoor

/- SealOwn: the walk. -/
import Derived.Test.YtgllokinadjiaaaSOwnP0
namespace Go.Proofs.Ytgllokinadjiaaa
open Go.RowKit Go.Maps
attribute [local go_sem ↓] Go.wp_at_zero Go.wp_at_succ

set_option maxRecDepth 20000 in
set_option maxHeartbeats 8000000 in
theorem own_walk (bits by_ : Int) (w : World) : Calls Try.prog 5 #[.int .i64 bits, .int .i64 by_] w fun e w' => e = .returned (.bool true) ∧ Below w.heap.size w w' := by
  have C0 := hide (known_any w)
  go_enter Try.func5, Try.ntmps5
  go_wp2_with fail
  refine (unhide C0).mono ?_
  rintro e w1 ⟨rfl, b1⟩
  have B1 := hide b1
  have C1 := hide (plain_any bits w1)
  clear b1 C0
  go_wp2_with fail
  refine (unhide C1).mono ?_
  rintro e w2 ⟨an, n, cn, rfl, hn, hnc, hfr, b2⟩
  obtain ⟨ms, hms⟩ : ∃ ms, plainOf (bitOf bits) = ms := ⟨_, rfl⟩
  have hne : ms ≠ [] := by rw [← hms]; exact plain_ne _
  have hn7 : n ≤ 7 := by rw [← hn]; exact plain_len _
  have hn0 : 0 < n := by rw [← hn]; exact plain_pos _
  have hwr : wrongG [] 1 1 0 [] ms = 0 := by rw [← hms]; exact wrong_plain 1 0 (Or.inl rfl) (by decide) 1 (by decide) _
  have hse : sealNo [⟨1, 1, 0, ms⟩] ⟨1, 1, 0, ms⟩ 3 2 [] ms = 0 := by rw [← hms]; exact seal_plain (gs := [⟨1, 1, 0, plainOf (bitOf bits)⟩]) rfl (show 1 < 60 by decide) 2 3 (Or.inr rfl) (show (0 : Int) < 3 by decide) _
  rw [hms] at hn hfr
  obtain ⟨W3, hW3, b3, x3⟩ := boxC w2 none an 0 0 n cn
  have q1 : (0 : Int) < (n : Int) := by omega
  have HW3 := hide hW3
  have X3 := hide x3
  have B3 := hide (below_far (unhide B1) (below_far b2 b3))
  have HI := hide (hfr.1.below b3)
  have HN := hide hn
  have HNE := hide hne
  have HWR := hide hwr
  have HSE := hide hse
  clear hW3 x3 b2 b3 hfr hn hne hwr hse hms C1
  go_upto_region 4 with fail
  rw [unhide HW3]
  obtain ⟨c5, hc5⟩ : ∃ c, w2.heap.size = c := ⟨_, rfl⟩
  rw [hc5] at X3 ⊢
  -- mine
  have b4 : Below W3.heap.size W3 (W3.alloc (.cells #[] 3)) := (Below.refl _ _).alloc (Nat.le_refl _) _
  have i4 : Ir W3.heap.size (W3.alloc (.cells #[] 3)) (.slice (some ⟨W3.heap.size, 0, none⟩) 0 0) [] := ⟨rfl, Or.inr ⟨W3.heap.size, 0, #[], rfl, Nat.le_refl _, box_at _ _, Nat.le_refl _, by decide, rfl, rfl⟩⟩
  have I4 := hide i4
  have M4 := hide ((unhide HI).below b4)
  have HL4 : Hid (([] : List Int).length + n ≤ 1000000000) := hide (by simp; omega)
  have S4 := hide b4.size
  have a0 : W3.cell? ⟨c5, 0, none⟩ = some (.slice none 0 0) := (cell_of_block (unhide X3)).trans rfl
  have a1 : W3.cell? ⟨c5, 1, none⟩ = some (.slice an n cn) := (cell_of_block (unhide X3)).trans rfl
  have a1' : (W3.alloc (.cells #[] 3)).cell? ⟨c5, 1, none⟩ = some (.slice an n cn) := (cell_of_block (Below.stay b4 (unhide X3))).trans rfl
  have C5 := hide hc5
  clear b4 i4 hc5
  go_upto_region 5 with (refine wpList_app rfl (.tmp 17) (.tmp 19) rfl W3.heap.size (.slice (some ⟨W3.heap.size, 0, none⟩) 0 0) [] rfl (unhide I4) an n cn ms rfl (unhide HN) (unhide M4) (unhide HL4) (unhide S4) ?_
                         intro v4 w5 i5 g5
                         rw [List.nil_append] at i5
                         obtain ⟨ao4, cc4, rfl, -⟩ := i5.slice
                         rw [unhide HN] at i5 ⊢
                         obtain ⟨gm, gcs, rfl, hgm, hgb, hgc⟩ := i5.first (unhide HNE)
                         have b5 : Below W3.heap.size W3 w5 := ((Below.refl _ W3).alloc (Nat.le_refl _) _).grown g5 (unhide S4) (fun k hk => by cases hk; exact Nat.le_refl _)
                         have I5 := hide i5
                         have GM := hide (And.intro hgm hgb)
                         have B5 := hide b5
                         clear i5 g5 hgm hgb hgc b5)
  obtain ⟨W6, hW6, b6, x6⟩ := boxC w5 none (some ⟨gm, 0, none⟩) 0 0 n cc4
  have HW6 := hide hW6
  have B36 := hide (below_far (unhide B5) b6)
  have X6 := hide x6
  have I6 := hide ((unhide I5).below b6)
  have GM6 := hide (And.intro (unhide GM).1 (And.intro (Below.stay b6 (unhide GM).2) (Nat.lt_of_lt_of_le (heap_lt (unhide GM).2) b6.size)))
  have x36 := Below.stay (below_far (unhide B5) b6) (unhide X3)
  have d0 : W6.cell? ⟨w5.heap.size, 0, none⟩ = some (.slice none 0 0) := (cell_of_block x6).trans rfl
  have d1 : W6.cell? ⟨w5.heap.size, 1, none⟩ = some (.slice (some ⟨gm, 0, none⟩) n cc4) := (cell_of_block x6).trans rfl
  have C6 := hide (new_ok W6 ⟨1, 1, 0, ms⟩ none (some ⟨gm, 0, none⟩) 0 0 n cc4 [] rfl (unhide HN) (by decide) (by omega) (IntsR.nil _ _) ((unhide I6).inF.ints) (unhide HWR))
  obtain ⟨c6, hc6⟩ : ∃ c, w5.heap.size = c := ⟨_, rfl⟩
  rw [hc6] at X6 d0 d1 ⊢
  rw [hW6]
  clear hW6 b6 x6 I5 GM a0 a1 a1' I4 M4 HL4 S4 x36
  go_wp2_with fail
  refine (unhide C6).mono ?_
  clear d0 d1
  rintro e w7 ⟨p, D, rfl, g7, hD, b7⟩
  have d0 : w7.cell? ⟨c6, 0, none⟩ = some (.slice none 0 0) := (cell_of_block (Below.stay b7 (unhide X6))).trans rfl
  have d1 : w7.cell? ⟨c6, 1, none⟩ = some (.slice (some ⟨gm, 0, none⟩) n cc4) := (cell_of_block (Below.stay b7 (unhide X6))).trans rfl
  have C7 := hide (seal_ok (l := ⟨1, 1, 0, ms⟩) g7 (show 1 ≤ 1000000 by decide) rfl 3 2 none (some ⟨gm, 0, none⟩) 0 0 n cc4 [] ms rfl (unhide HN) (by decide) (by omega) (IntsR.nil _ _) (((unhide I6).below b7).inF.ints) (unhide HSE))
  have D6 := hide hD
  have B67 := hide b7
  clear g7 hD b7 C6
  go_wp2_with fail
  refine (unhide C7).mono ?_
  clear d0 d1
  rintro e w8 ⟨rfl, g8, k8⟩
  replace g8 : Gs (News D w7 w8) w8 p [⟨1, 1, 0, ms⟩, ⟨2, 2, 3, ms⟩] := g8
  obtain ⟨E, hE⟩ : ∃ E, News D w7 w8 = E := ⟨_, rfl⟩
  have HE : Hid (∀ k, E k → W6.heap.size ≤ k ∧ k < w8.heap.size) := hide (fun k hk => by
    refine ⟨?_, g8.lt k (by rw [hE]; exact hk)⟩
    rw [← hE] at hk
    rcases hk with hk | hk
    · exact unhide D6 k hk
    · exact Nat.le_trans (unhide B67).size hk.1)
  rw [hE] at g8
  have k6 : ∀ k, k < W6.heap.size → ¬ D k := fun k hk hd => absurd (unhide D6 k hd) (by omega)
  have x8 := k8.block (Below.stay (unhide B67) (unhide X6)) (k6 _ (heap_lt (unhide X6)))
  have y8 := k8.block (Below.stay (unhide B67) (Below.stay (unhide B36) (unhide X3))) (k6 _ (Nat.lt_of_lt_of_le (heap_lt (unhide X3)) (unhide B36).size))
  have m8 := k8.block (Below.stay (unhide B67) (unhide GM6).2.1) (k6 _ (unhide GM6).2.2)
  have i8 : InF (fun k => k < W3.heap.size) w8 an ms := (((unhide HI).inF.below (unhide B36)).below (unhide B67)).kp k8 (fun k hk => k6 k (Nat.lt_of_lt_of_le hk (unhide B36).size))
  have d1 : w8.cell? ⟨c6, 1, none⟩ = some (.slice (some ⟨gm, 0, none⟩) n cc4) := (cell_of_block x8).trans rfl
  obtain ⟨u8, e8⟩ : ∃ u, w8.cell? ⟨gm, 0, none⟩ = some u := by
    have hi := (((unhide I6).below (unhide B67)).kp k8 (fun k hk => by cases hk; exact k6 _ (unhide GM6).2.2))
    obtain ⟨g', cs', e1, -, -, e4⟩ := hi.first (unhide HNE)
    cases e1
    exact ⟨_, e4⟩
  have f8 : w8.frozen? ⟨gm, 0, none⟩ = false := free_of_block m8
  obtain ⟨W9, hW9⟩ : ∃ W, w8.setCell ⟨gm, 0, none⟩ (.int .i64 by_) = W := ⟨_, rfl⟩
  have kp9 : Kp (fun k => k = gm) w8 W9 := by rw [← hW9]; exact Kp.put _ _ _
  have s9 : W9.heap.size = w8.heap.size := by rw [← hW9]; simp [World.setCell]
  have hb8 : Below w.heap.size w w8 := (below_far (unhide B3) (below_far (unhide B36) (unhide B67))).trans (k8.below (base := w.heap.size) (fun k hk => Nat.le_trans (below_far (unhide B3) (unhide B36)).size (unhide D6 k hk)) (below_far (unhide B3) (below_far (unhide B36) (unhide B67))).size)
  have g9 := g8.kp kp9 (fun k hk e => by subst e; have := (unhide HE k hk).1; have := (unhide GM6).2.2; omega)
  have i9 := i8.kp kp9 (fun k hk e => by subst e; have := (unhide GM6).1; omega)
  have y9 := kp9.block y8 (fun e => by have h1 := heap_lt (unhide X3); have h2 := (unhide GM6).1; omega)
  have hb9 : Below w.heap.size w W9 := by
    rw [← hW9]
    exact hb8.setCell (p := ⟨gm, 0, none⟩) (by show w.heap.size ≤ gm; have h1 := (unhide B3).size; have h2 := (unhide GM6).1; omega) _
  have C9 := hide (now_any g9 (show 2 ≤ 1000000 by decide) rfl)
  have G9 := hide g9
  have I9 := hide i9
  have Y9 := hide y9
  have B9 := hide hb9
  have S9 := hide s9
  have HW9 := hide hW9
  clear g8 hE k6 x8 y8 m8 i8 hW9 kp9 s9 hb8 g9 i9 y9 hb9 k8 C7
  go_upto_region 8 with fail
  rw [unhide HW9]
  clear d1 e8 f8
  go_wp2_with fail
  refine (unhide C9).mono ?_
  rintro e w10 ⟨b, rfl, o10, b10⟩
  unfold gnV
  simp only [unhide HN] at o10 ⊢
  obtain ⟨g', gcs', e1, hbb, hbh, hbc⟩ := o10.first (unhide HNE)
  cases e1
  obtain ⟨W11, hW11, b11, x11⟩ := boxG w10 2 2 3 none (some ⟨b, 0, none⟩) 0 0 n n
  obtain ⟨c10, hc10⟩ : ∃ c, w10.heap.size = c := ⟨_, rfl⟩
  rw [hc10] at x11
  have a4 : W11.cell? ⟨c10, 4, none⟩ = some (.slice (some ⟨b, 0, none⟩) n n) := (cell_of_block x11).trans rfl
  have e11 : W11.cell? ⟨b, 0, none⟩ = some (.int .i64 (ms.getD 0 0)) := (b11.cell (blk_lt hbc)).trans hbc
  have f11 : W11.frozen? ⟨b, 0, none⟩ = false := free_of_block (Below.stay b11 hbh)
  obtain ⟨W12, hW12⟩ : ∃ W, W11.setCell ⟨b, 0, none⟩ (.int .i64 by_) = W := ⟨_, rfl⟩
  have kp12 : Kp (fun k => k = b) W11 W12 := by rw [← hW12]; exact Kp.put _ _ _
  have b911 := below_far b10 b11
  have hlt9 : ∀ k, k < W9.heap.size → ¬ k = b := fun k hk e => by omega
  have g12 := ((unhide G9).below b911).kp kp12 (fun k hk => hlt9 k (by have h1 := (unhide HE k hk).2; have h2 := unhide S9; omega))
  have i12 := ((unhide I9).below b911).kp kp12 (fun k hk => hlt9 k (by have h1 := heap_lt (unhide Y9); have h2 := (unhide S9); have h3 := (unhide B36).size; have h4 := (unhide B67).size; have h5 := (unhide HE p g12.own).1; have h6 := (unhide HE p g12.own).2; omega))
  have y12 := kp12.block (Below.stay b911 (unhide Y9)) (hlt9 _ (heap_lt (unhide Y9)))
  have hb12 : Below w.heap.size w W12 := by
    rw [← hW12]
    exact (below_far (unhide B9) b911).setCell (p := ⟨b, 0, none⟩) (by show w.heap.size ≤ b; have := (unhide B9).size; omega) _
  have s12 : W9.heap.size ≤ W12.heap.size := Nat.le_trans b911.size kp12.size
  have C12 := hide (all_any g12 (n := 2) rfl (by decide))
  have G12 := hide g12
  have I12 := hide i12
  have Y12 := hide y12
  have B12 := hide hb12
  have S12 := hide s12
  have HW11 := hide hW11
  have HW12 := hide hW12
  have C10 := hide hc10
  clear o10 b10 hbb hbh hbc hW11 b11 x11 hc10 hW12 kp12 b911 hlt9 g12 i12 y12 hb12 s12 G9 I9 Y9 C9
  go_upto_region 9 with fail
  rw [unhide HW11, unhide C10]
  go_upto_region 10 with fail
  rw [unhide HW12]
  clear a4 e11 f11
  go_wp2_with fail
  refine (unhide C12).mono ?_
  rintro e w13 ⟨b2, rfl, r13, b13⟩
  obtain ⟨b2', mo3, mc3, e1, hDb, -, -, -, -, c4, o3, d3, -⟩ := r13.at (i := 0) (g := ⟨1, 1, 0, ms⟩) rfl
  cases e1
  simp only [Nat.zero_mul, Nat.zero_add, unhide HN] at c4 o3 d3
  obtain ⟨g3, gcs3, rfl, -, hgb3, hgc3⟩ := o3.first (unhide HNE)
  have hd3 := d3 g3 rfl
  have f13 : w13.frozen? ⟨g3, 0, none⟩ = false := free_of_block hgb3
  obtain ⟨W14, hW14⟩ : ∃ W, w13.setCell ⟨g3, 0, none⟩ (.int .i64 by_) = W := ⟨_, rfl⟩
  have kp14 : Kp (fun k => k = g3) w13 W14 := by rw [← hW14]; exact Kp.put _ _ _
  have hlt12 : ∀ k, k < W12.heap.size → ¬ k = g3 := fun k hk e => by omega
  have g14 := ((unhide G12).below b13).kp kp14 (fun k hk => hlt12 k ((unhide G12).lt k hk))
  have i14 := ((unhide I12).below b13).kp kp14 (fun k hk => hlt12 k (by have h3 := (unhide B36).size; have h5 := (unhide HE p g14.own).1; have h6 := (unhide G12).lt p g14.own; omega))
  have y14 := kp14.block (Below.stay b13 (unhide Y12)) (hlt12 _ (heap_lt (unhide Y12)))
  have hb14 : Below w.heap.size w W14 := by
    rw [← hW14]
    exact (below_far (unhide B12) b13).setCell (p := ⟨g3, 0, none⟩) (by show w.heap.size ≤ g3; have := (unhide B12).size; omega) _
  have C14 := at_any g14 (by simp) (show 2 ≤ 1000000 by decide) 2
  rw [show atOf [⟨1, 1, 0, ms⟩, ⟨2, 2, 3, ms⟩] 2 = ⟨1, 1, 0, ms⟩ from rfl] at C14
  have C14' := hide C14
  have G14 := hide g14
  have I14 := hide i14
  have Y14 := hide y14
  have B14 := hide hb14
  have HW14 := hide hW14
  clear r13 b13 hDb o3 d3 hgb3 hd3 hW14 kp14 hlt12 g14 i14 y14 hb14 C14 G12 I12 Y12 C12
  go_upto_region 12 with fail
  rw [unhide HW14]
  clear c4 f13 hgc3
  go_wp2_with fail
  refine (unhide C14').mono ?_
  rintro e w15 ⟨mo5, mc5, rfl, o15, b15⟩
  unfold gnV
  simp only [unhide HN] at o15 ⊢
  obtain ⟨W16, hW16, b16, x16⟩ := boxG w15 1 1 0 none mo5 0 0 n mc5
  obtain ⟨c14, hc14⟩ : ∃ c, w15.heap.size = c := ⟨_, rfl⟩
  rw [hc14] at x16
  have HW16 := hide hW16
  have C15 := hide hc14
  have b1416 := below_far b15 b16
  have G16 := hide (fun Y (hY : Below W16.heap.size W16 Y) => ((unhide G14).below b1416).below hY)
  have IC := hide (fun Y (hY : Below W16.heap.size W16 Y) => (((unhide I14).below b1416).below hY).ints)
  have IY := hide (fun Y (hY : Below W16.heap.size W16 Y) => ((o15.inF.below b16).below hY).ints)
  have SX : Hid (∀ Y, Below W16.heap.size W16 Y → Y.cell? ⟨c5, 0, none⟩ = some (.slice none 0 0) ∧ Y.cell? ⟨c5, 1, none⟩ = some (.slice an n cn) ∧ Y.cell? ⟨c14, 3, none⟩ = some (.slice none 0 0) ∧ Y.cell? ⟨c14, 4, none⟩ = some (.slice mo5 n mc5)) := hide (fun Y hY =>
    have x := Below.stay hY (Below.stay b1416 (unhide Y14))
    have y := Below.stay hY x16
    ⟨(cell_of_block x).trans rfl, (cell_of_block x).trans rfl, (cell_of_block y).trans rfl, (cell_of_block y).trans rfl⟩)
  have B16 := hide (below_far (unhide B14) b1416)
  clear o15 b15 hW16 b16 x16 hc14 b1416 G14 I14 Y14 C14'
  go_upto_region 13 with fail
  rw [unhide HW16, unhide C15]
  have EZ := hide (Below.refl W16.heap.size W16)
  have FC := field_conf
  obtain ⟨x0, x1, y3, y4⟩ := unhide SX _ (unhide EZ)
  obtain ⟨x0', x1', y3', y4'⟩ := unhide SX _ (unhide EZ).drew
  have hn6 : n ≤ 1000000 := by omega
  go_region_with (first
      | (go_at_call 10
         refine (now_any (unhide G16 _ (by first | exact unhide EZ | exact (unhide EZ).drew | fail)) (show 2 ≤ 1000000 by decide) rfl).mono ?_
         rintro e z1 ⟨bn, rfl, on, b1⟩
         unfold gnV
         simp only [unhide HN] at on ⊢
         have EN := hide (below_far (by first | exact unhide EZ | exact (unhide EZ).drew | fail) b1)
         clear EZ b1
         have EZ := EN
         clear EN
         obtain ⟨x0, x1, y3, y4⟩ := unhide SX _ (unhide EZ)
         have IN := hide (fun Y (hY : Below z1.heap.size z1 Y) => (on.inF.below hY).ints)
         have Z1 := hide (Below.refl z1.heap.size z1)
         clear on)
      | (go_at_call 15
         refine (rsame_self _ _ _ _ _ ms (unhide HN) hn6 _ (by first | exact unhide IN _ (by first | exact unhide Z1 | exact (unhide Z1).drew | fail) | exact unhide IY _ (by first | exact unhide EZ | exact (unhide EZ).drew | fail) | exact unhide IL _ (by first | exact unhide Z4 | exact (unhide Z4).drew | fail) | fail) (unhide IC _ (by first | exact unhide EZ | exact (unhide EZ).drew | fail))).mono ?_
         rintro e z2 ⟨rfl, b1⟩
         have EN := hide (below_far (by first | exact unhide EZ | exact (unhide EZ).drew | fail) b1)
         clear EZ b1
         have EZ := EN
         clear EN
         obtain ⟨x0, x1, y3, y4⟩ := unhide SX _ (unhide EZ)
         skip)
      | (go_at_call 12
         refine (all_any (unhide G16 _ (by first | exact unhide EZ | exact (unhide EZ).drew | fail)) (n := 2) rfl (by decide)).mono ?_
         rintro e z4 ⟨bl, rfl, rl, b1⟩
         have EN := hide (below_far (by first | exact unhide EZ | exact (unhide EZ).drew | fail) b1)
         clear EZ b1
         have EZ := EN
         clear EN
         obtain ⟨x0, x1, y3, y4⟩ := unhide SX _ (unhide EZ)
         obtain ⟨bl', mol, mcl, e1, -, -, -, -, l3, l4, ol, -, -⟩ := rl.at (i := 0) (g := ⟨1, 1, 0, ms⟩) rfl
         cases e1
         simp only [Nat.zero_mul, Nat.zero_add, unhide HN] at l3 l4 ol
         have IL := hide (fun Y (hY : Below z4.heap.size z4 Y) => (ol.inF.below hY).ints)
         have Z4 := hide (Below.refl z4.heap.size z4)
         clear rl ol)
      | fail)
  all_goals go_wp2
  all_goals go_ret
  all_goals exact ⟨rfl, below_far (unhide B16) (unhide EZ)⟩
end Go.Proofs.Ytgllokinadjiaaa

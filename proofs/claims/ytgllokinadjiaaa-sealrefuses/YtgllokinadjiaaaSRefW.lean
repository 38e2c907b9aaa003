/- SealRefuses: the walk. -/
import Derived.Test.YtgllokinadjiaaaSOwnP0
import Derived.Test.YtgllokinadjiaaaKWithin
namespace Go.Proofs.Ytgllokinadjiaaa
open Go.RowKit Go.Maps

/-- within, its answer by a letter. -/
theorem within_int (n m : Int) (h1 : 0 < m) (h2 : m ≤ 1000000) : ∃ z : Int, (0 ≤ z ∧ z < m) ∧ ∀ w, Calls Try.prog 11 #[.int .i64 n, .int .i64 m] w fun e w' => e = .returned (.int .i64 z) ∧ Below w.heap.size w w' :=
  ⟨n % m, ⟨Int.emod_nonneg n (by omega), Int.emod_lt_of_pos n h1⟩, fun w => (within_any n m w h1 (by omega)).mono (by rintro e w' ⟨rfl, rfl⟩; exact ⟨rfl, Below.refl _ _⟩)⟩
theorem eq_ptr_nil' (p : Nat) (w : World) : (binOp .eql 24 (.pointer (some ⟨p, 0, none⟩)) (.pointer none)).run Try.prog w = .ok (.bool false) w := by kernel_rfl
theorem wr_in (a b : Int) (h : a = b) (h1 : -1000000 ≤ a) (h2 : a ≤ 1000000) : IntKind.i64.wrap a = b := by rw [← h]; exact IntWalk.i64_in _ (by omega)
/-- why a seal is refused, by the case. -/
theorem refuse_index {gs : List Gn} {l : Gn} (hl : gs[gs.length - 1]? = some l) {index : Int} (h : index ≤ l.base) (e : Int) (old new : List Int) : sealNo gs l index e old new = 1 := by
  unfold sealNo wrongG wrongB followsOf
  have : ¬ l.base < index := by omega
  simp [hl, this]
theorem refuse_engine {gs : List Gn} {l : Gn} {index e : Int} (he : ¬ (e = 1 ∨ e = 2)) (old new : List Int) : sealNo gs l index e old new = 1 := by
  unfold sealNo wrongG wrongB
  simp [he]
theorem refuse_check {gs : List Gn} {l : Gn} (hl : gs[gs.length - 1]? = some l) {index e : Int} (h : l.base < index) (he : e = 1 ∨ e = 2) {old new : List Int} {c : Nat} (hc : checkOf old new = c) (h0 : c ≠ 0) : sealNo gs l index e old new = (c : Int) := by
  unfold sealNo wrongG wrongB followsOf
  simp [hl, h, he, hc, h0]
theorem refuse_joint {gs : List Gn} {l : Gn} (hl : gs[gs.length - 1]? = some l) {index e : Int} (h : l.base < index) (he : e = 1 ∨ e = 2) {old new : List Int} (hc : checkOf old new = 0) (ho : 0 < old.length) : sealNo gs l index e old new = 1 := by
  unfold sealNo wrongG wrongB followsOf
  simp [hl, h, he, hc, ho]
theorem check_low {z : Int} (h : z ≤ -1) : checkOf [] [z] = 1 := by
  unfold checkOf
  rw [if_pos (wrong_good Up.nil (by decide) (by simp))]
  unfold wrongOf
  rw [if_neg (by simp), if_neg (by simp)]
  simp [climb, h]
set_option maxRecDepth 20000 in
set_option maxHeartbeats 8000000 in
theorem refuses_walk (base bits how by_ : Int) (w : World) : Calls Try.prog 4 #[.int .i64 base, .int .i64 bits, .int .i64 how, .int .i64 by_] w fun e w' => e = .returned (.bool true) ∧ Below w.heap.size w w' := by
  have C0 := hide (known_any w)
  obtain ⟨b, hb, CB⟩ := within_int base 40 (by decide) (by decide)
  obtain ⟨y0, hy0, CY⟩ := within_int by_ 30 (by decide) (by decide)
  obtain ⟨k, hk, CK⟩ := within_int how 6 (by decide) (by decide)
  have CB' := hide CB
  have CY' := hide CY
  have CK' := hide CK
  have HB := hide hb
  have HK := hide hk
  obtain ⟨y, hy⟩ : ∃ y, IntKind.i64.wrap (1 + y0) = y := ⟨_, rfl⟩
  have HY : Hid (1 ≤ y ∧ y ≤ 30) := hide (by rw [← hy, IntWalk.i64_in _ (by omega)]; omega)
  obtain ⟨ix, hix⟩ : ∃ ix, IntKind.i64.wrap (b + y) = ix := ⟨_, rfl⟩
  have HIX : Hid (ix = b + y) := hide (by rw [← hix, IntWalk.i64_in _ (by have := unhide HY; omega)])
  obtain ⟨b1, hb1⟩ : ∃ b1, IntKind.i64.wrap (bits + 1) = b1 := ⟨_, rfl⟩
  obtain ⟨bb, hbb⟩ : ∃ bb, IntKind.i64.wrap (b + 1) = bb := ⟨_, rfl⟩
  have HBB : Hid (bb = b + 1) := hide (by rw [← hbb, IntWalk.i64_in _ (by omega)])
  obtain ⟨ms, hp, -, CP⟩ := plain_pl bits
  obtain ⟨ms1, hp1, -, CP1⟩ := plain_pl b1
  have HP := hide hp
  have HP1 := hide hp1
  have CP' := hide CP
  have CP1' := hide CP1
  have QN := eq_ptr_nil'
  have FN := field_n
  clear CB CY CK hb hy0 hk hp hp1 CP CP1
  go_enter Try.func4, Try.ntmps4
  go_wp2_with fail
  refine (unhide C0).mono ?_
  rintro e w1 ⟨rfl, z1⟩
  have B1 := hide z1
  have C1 := hide (unhide CB' w1)
  clear z1 C0
  go_wp2_with fail
  refine (unhide C1).mono ?_
  rintro e w2 ⟨rfl, z2⟩
  have B2 := hide (below_far (unhide B1) z2)
  have C2 := hide (unhide CP' w2)
  clear z2 C1 CB'
  go_wp2_with fail
  refine (unhide C2).mono ?_
  rintro e w3 ⟨an, n, cn, rfl, hn, hnc, hfr, z3⟩
  have hn7 : n ≤ 7 := by rw [← hn]; exact (unhide HP).2.1
  have C3 := hide (new_ok w3 ⟨1, 2, b, ms⟩ none an 0 0 n cn [] rfl hn (by decide) (by omega) (IntsR.nil _ _) hfr.1 (wrong_pl (unhide HP) (Or.inr rfl) (unhide HB).1 (show (1 : Int) ≤ 1 by decide)))
  have B3 := hide (below_far (unhide B2) z3)
  clear z3 hn hfr hnc hn7 C2
  go_wp2_with fail
  refine (unhide C3).mono ?_
  rintro e w4 ⟨p, D, rfl, g4, hD, z4⟩
  have HD := hide (fun k hk => Nat.le_trans (unhide B3).size (hD k hk))
  have G4 := hide g4
  have B4 := hide (below_far (unhide B3) z4)
  have C4 := hide (unhide CY' w4)
  clear z4 g4 hD C3 CY'
  go_wp2_with fail
  refine (unhide C4).mono ?_
  rintro e w5 ⟨rfl, z5⟩
  have B5 := hide (below_far (unhide B4) z5)
  have G5 := hide ((unhide G4).below z5)
  have C5 := hide (unhide CP1' w5)
  clear z5 C4 G4
  go_wp2_with fail
  refine (unhide C5).mono ?_
  rintro e w6 ⟨am, m, cm, rfl, hm, hmc, hfr, z6⟩
  have hm7 : m ≤ 7 := by rw [← hm]; exact (unhide HP1).2.1
  obtain ⟨W7, hW7, z7, x7⟩ := boxC w6 none am 0 0 m cm
  obtain ⟨c13, hc13⟩ : ∃ c, w6.heap.size = c := ⟨_, rfl⟩
  rw [hc13] at x7
  have HW7 := hide hW7
  have HSZ : Hid (w.heap.size ≤ c13) := hide (by rw [← hc13]; exact Nat.le_trans (unhide B5).size z6.size)
  have HC := hide hc13
  have X7 := hide x7
  have B7 := hide (below_far (unhide B5) (below_far z6 z7))
  have G7 := hide ((unhide G5).below (below_far z6 z7))
  have I7 := hide (hfr.1.below z7)
  have IF7 : Hid (InF (fun k => k < c13) W7 am ms1) := hide ((hfr.1.inF.mono (fun k hk => by rw [← hc13]; exact hk)).below z7)
  have HM := hide hm
  have C7 := hide (unhide CK' W7)
  have NEQ : Hid (∀ j, D j → j ≠ c13) := hide (fun j hj e => by
    subst e
    have h1 := (unhide G5).lt _ hj
    have h2 := z6.size
    omega)
  clear z6 z7 hW7 x7 hc13 hm hfr hmc C5 G5 CK'
  go_upto_region 9 with fail
  rw [unhide HW7, unhide HC]
  go_wp2_with fail
  refine (unhide C7).mono ?_
  rintro e W8 ⟨rfl, z8⟩
  have B8 := hide (below_far (unhide B7) z8)
  have G8 := hide ((unhide G7).below z8)
  have I8 := hide ((unhide I7).below z8)
  have IF8 := hide ((unhide IF7).below z8)
  have X8 := hide (Below.stay z8 (unhide X7))
  have hs8 := Nat.lt_of_lt_of_le (heap_lt (unhide X7)) z8.size
  have HS8 := hide hs8
  have a0 : W8.cell? ⟨c13, 0, none⟩ = some (.slice none 0 0) := (cell_of_block (unhide X8)).trans rfl
  have a1 : W8.cell? ⟨c13, 1, none⟩ = some (.slice am m cm) := (cell_of_block (unhide X8)).trans rfl
  have fa : ∀ i, W8.frozen? ⟨c13, i, none⟩ = false := fun i => free_of_block (unhide X8)
  clear z8 hs8 C7 G7 I7 X7
  have I7' : Hid (InF (fun k => k < c13) W8 am ms1) := hide (unhide IF8)
  have hk6 : k = 0 ∨ k = 1 ∨ k = 2 ∨ k = 3 ∨ k = 4 ∨ k = 5 := by have := unhide HK; omega
  clear HK
  rcases hk6 with rfl | rfl | rfl | rfl | rfl | rfl
  · obtain ⟨i0, hi0⟩ : ∃ i0, IntKind.i64.wrap (bb - y) = i0 := ⟨_, rfl⟩
    have HI0 : Hid (i0 ≤ b) := hide (by rw [← hi0, IntWalk.i64_in _ (by have h1 := unhide HB; have h2 := unhide HY; have h3 := unhide HBB; omega)]; have h2 := unhide HY; have h3 := unhide HBB; omega)

    have B9 := hide (unhide B8)
    have G9 := hide (unhide G8)

    have HE : Hid (sealNo [⟨1, 2, b, ms⟩] ⟨1, 2, b, ms⟩ i0 1 [] ms1 = 1) := hide (refuse_index (gs := [⟨1, 2, b, ms⟩]) rfl (unhide HI0) 1 _ _)
    have C9 := seal_no (l := ⟨1, 2, b, ms⟩) (unhide G9) (show 1 ≤ 1000000 by decide) rfl i0 1 none am 0 0 m cm [] ms1 rfl (unhide HM) (by decide) (by omega) (IntsR.nil _ _) (unhide I8) (by rw [unhide HE]; decide)
    rw [unhide HE] at C9
    replace C9 := hide C9

    go_wp2_with fail
    refine (unhide C9).mono ?_
    rintro e w10 ⟨rfl, z10⟩
    have B10 := hide (below_far (unhide B9) z10)
    have G10 := hide ((unhide G9).below z10)
    have C10 := hide (all_any (unhide G10) (n := 1) rfl (by decide))
    clear z10 C9 G9 a0 a1 fa
    go_wp2_with fail
    refine (unhide C10).mono ?_
    rintro e w11 ⟨bl, rfl, -, z11⟩
    have B11 := hide (below_far (unhide B10) z11)
    have G11 := hide ((unhide G10).below z11)
    have C11 := now_any (unhide G11) (show 1 ≤ 1000000 by decide) rfl
    unfold gnV at C11
    simp only at C11
    have C11' := hide C11
    clear z11 C10 G10 C11
    go_wp2_with fail
    refine (unhide C11').mono ?_
    rintro e w12 ⟨bn, rfl, -, z12⟩
    have B12 := hide (below_far (unhide B11) z12)
    have G12 := hide ((unhide G11).below z12)
    have C12 := hide (unhide CP' w12)
    clear z12 C11' G11
    go_wp2_with fail
    refine (unhide C12).mono ?_
    rintro e w13 ⟨an2, n2, cn2, rfl, hn2, -, hfr2, z13⟩
    have hn27 : n2 ≤ 7 := by rw [← hn2]; exact (unhide HP).2.1
    have B13 := hide (below_far (unhide B12) z13)
    have G13 := (unhide G12).below z13
    have C13 := hide (seal_ok (l := ⟨1, 2, b, ms⟩) G13 (show 1 ≤ 1000000 by decide) rfl bb 1 none an2 0 0 n2 cn2 [] ms rfl hn2 (by decide) (by omega) (IntsR.nil _ _) hfr2.1 (seal_pl (unhide HP) (gs := [⟨1, 2, b, ms⟩]) (l := ⟨1, 2, b, ms⟩) rfl (show 1 < 60 by decide) (Or.inl rfl) (show b < bb by have h := unhide HBB; omega)))
    clear z13 hn2 hfr2 hn27 G13 C12 G12
    go_wp2_with fail
    refine (unhide C13).mono ?_
    rintro e w14 ⟨rfl, g14, k14⟩
    replace g14 : Gs (News D w13 w14) w14 p [⟨1, 2, b, ms⟩, ⟨2, 1, bb, ms⟩] := g14
    have B14 := hide ((unhide B13).trans (k14.below (base := w.heap.size) (unhide HD) (unhide B13).size))
    have C14 := now_any g14 (show 2 ≤ 1000000 by decide) rfl
    unfold gnV at C14
    simp only at C14
    have C14' := hide C14
    clear g14 k14 C13 C14
    go_wp2_with fail
    refine (unhide C14').mono ?_
    rintro e w15 ⟨bn2, rfl, -, z15⟩
    have B15 := hide (below_far (unhide B14) z15)
    clear z15 C14'
    go_wp2
    go_ret
    exact ⟨rfl, unhide B15⟩
  · obtain ⟨kd, hkd⟩ : ∃ kd, IntKind.i64.wrap (2 + y) = kd := ⟨_, rfl⟩
    have HKD : Hid (¬ (kd = 1 ∨ kd = 2)) := hide (by rw [← hkd, IntWalk.i64_in _ (by have h2 := unhide HY; omega)]; have h2 := unhide HY; omega)

    have B9 := hide (unhide B8)
    have G9 := hide (unhide G8)

    have HE : Hid (sealNo [⟨1, 2, b, ms⟩] ⟨1, 2, b, ms⟩ ix kd [] ms1 = 1) := hide (refuse_engine (unhide HKD) _ _)
    have C9 := seal_no (l := ⟨1, 2, b, ms⟩) (unhide G9) (show 1 ≤ 1000000 by decide) rfl ix kd none am 0 0 m cm [] ms1 rfl (unhide HM) (by decide) (by omega) (IntsR.nil _ _) (unhide I8) (by rw [unhide HE]; decide)
    rw [unhide HE] at C9
    replace C9 := hide C9

    go_wp2_with fail
    refine (unhide C9).mono ?_
    rintro e w10 ⟨rfl, z10⟩
    have B10 := hide (below_far (unhide B9) z10)
    have G10 := hide ((unhide G9).below z10)
    have C10 := hide (all_any (unhide G10) (n := 1) rfl (by decide))
    clear z10 C9 G9 a0 a1 fa
    go_wp2_with fail
    refine (unhide C10).mono ?_
    rintro e w11 ⟨bl, rfl, -, z11⟩
    have B11 := hide (below_far (unhide B10) z11)
    have G11 := hide ((unhide G10).below z11)
    have C11 := now_any (unhide G11) (show 1 ≤ 1000000 by decide) rfl
    unfold gnV at C11
    simp only at C11
    have C11' := hide C11
    clear z11 C10 G10 C11
    go_wp2_with fail
    refine (unhide C11').mono ?_
    rintro e w12 ⟨bn, rfl, -, z12⟩
    have B12 := hide (below_far (unhide B11) z12)
    have G12 := hide ((unhide G11).below z12)
    have C12 := hide (unhide CP' w12)
    clear z12 C11' G11
    go_wp2_with fail
    refine (unhide C12).mono ?_
    rintro e w13 ⟨an2, n2, cn2, rfl, hn2, -, hfr2, z13⟩
    have hn27 : n2 ≤ 7 := by rw [← hn2]; exact (unhide HP).2.1
    have B13 := hide (below_far (unhide B12) z13)
    have G13 := (unhide G12).below z13
    have C13 := hide (seal_ok (l := ⟨1, 2, b, ms⟩) G13 (show 1 ≤ 1000000 by decide) rfl bb 1 none an2 0 0 n2 cn2 [] ms rfl hn2 (by decide) (by omega) (IntsR.nil _ _) hfr2.1 (seal_pl (unhide HP) (gs := [⟨1, 2, b, ms⟩]) (l := ⟨1, 2, b, ms⟩) rfl (show 1 < 60 by decide) (Or.inl rfl) (show b < bb by have h := unhide HBB; omega)))
    clear z13 hn2 hfr2 hn27 G13 C12 G12
    go_wp2_with fail
    refine (unhide C13).mono ?_
    rintro e w14 ⟨rfl, g14, k14⟩
    replace g14 : Gs (News D w13 w14) w14 p [⟨1, 2, b, ms⟩, ⟨2, 1, bb, ms⟩] := g14
    have B14 := hide ((unhide B13).trans (k14.below (base := w.heap.size) (unhide HD) (unhide B13).size))
    have C14 := now_any g14 (show 2 ≤ 1000000 by decide) rfl
    unfold gnV at C14
    simp only at C14
    have C14' := hide C14
    clear g14 k14 C13 C14
    go_wp2_with fail
    refine (unhide C14').mono ?_
    rintro e w15 ⟨bn2, rfl, -, z15⟩
    have B15 := hide (below_far (unhide B14) z15)
    clear z15 C14'
    go_wp2
    go_ret
    exact ⟨rfl, unhide B15⟩
  · obtain ⟨kd, hkd⟩ : ∃ kd, IntKind.i64.wrap (1 - y) = kd := ⟨_, rfl⟩
    have HKD : Hid (¬ (kd = 1 ∨ kd = 2)) := hide (by rw [← hkd, IntWalk.i64_in _ (by have h2 := unhide HY; omega)]; have h2 := unhide HY; omega)

    have B9 := hide (unhide B8)
    have G9 := hide (unhide G8)

    have HE : Hid (sealNo [⟨1, 2, b, ms⟩] ⟨1, 2, b, ms⟩ ix kd [] ms1 = 1) := hide (refuse_engine (unhide HKD) _ _)
    have C9 := seal_no (l := ⟨1, 2, b, ms⟩) (unhide G9) (show 1 ≤ 1000000 by decide) rfl ix kd none am 0 0 m cm [] ms1 rfl (unhide HM) (by decide) (by omega) (IntsR.nil _ _) (unhide I8) (by rw [unhide HE]; decide)
    rw [unhide HE] at C9
    replace C9 := hide C9

    go_wp2_with fail
    refine (unhide C9).mono ?_
    rintro e w10 ⟨rfl, z10⟩
    have B10 := hide (below_far (unhide B9) z10)
    have G10 := hide ((unhide G9).below z10)
    have C10 := hide (all_any (unhide G10) (n := 1) rfl (by decide))
    clear z10 C9 G9 a0 a1 fa
    go_wp2_with fail
    refine (unhide C10).mono ?_
    rintro e w11 ⟨bl, rfl, -, z11⟩
    have B11 := hide (below_far (unhide B10) z11)
    have G11 := hide ((unhide G10).below z11)
    have C11 := now_any (unhide G11) (show 1 ≤ 1000000 by decide) rfl
    unfold gnV at C11
    simp only at C11
    have C11' := hide C11
    clear z11 C10 G10 C11
    go_wp2_with fail
    refine (unhide C11').mono ?_
    rintro e w12 ⟨bn, rfl, -, z12⟩
    have B12 := hide (below_far (unhide B11) z12)
    have G12 := hide ((unhide G11).below z12)
    have C12 := hide (unhide CP' w12)
    clear z12 C11' G11
    go_wp2_with fail
    refine (unhide C12).mono ?_
    rintro e w13 ⟨an2, n2, cn2, rfl, hn2, -, hfr2, z13⟩
    have hn27 : n2 ≤ 7 := by rw [← hn2]; exact (unhide HP).2.1
    have B13 := hide (below_far (unhide B12) z13)
    have G13 := (unhide G12).below z13
    have C13 := hide (seal_ok (l := ⟨1, 2, b, ms⟩) G13 (show 1 ≤ 1000000 by decide) rfl bb 1 none an2 0 0 n2 cn2 [] ms rfl hn2 (by decide) (by omega) (IntsR.nil _ _) hfr2.1 (seal_pl (unhide HP) (gs := [⟨1, 2, b, ms⟩]) (l := ⟨1, 2, b, ms⟩) rfl (show 1 < 60 by decide) (Or.inl rfl) (show b < bb by have h := unhide HBB; omega)))
    clear z13 hn2 hfr2 hn27 G13 C12 G12
    go_wp2_with fail
    refine (unhide C13).mono ?_
    rintro e w14 ⟨rfl, g14, k14⟩
    replace g14 : Gs (News D w13 w14) w14 p [⟨1, 2, b, ms⟩, ⟨2, 1, bb, ms⟩] := g14
    have B14 := hide ((unhide B13).trans (k14.below (base := w.heap.size) (unhide HD) (unhide B13).size))
    have C14 := now_any g14 (show 2 ≤ 1000000 by decide) rfl
    unfold gnV at C14
    simp only at C14
    have C14' := hide C14
    clear g14 k14 C13 C14
    go_wp2_with fail
    refine (unhide C14').mono ?_
    rintro e w15 ⟨bn2, rfl, -, z15⟩
    have B15 := hide (below_far (unhide B14) z15)
    clear z15 C14'
    go_wp2
    go_ret
    exact ⟨rfl, unhide B15⟩
  · obtain ⟨W9, hW9⟩ : ∃ W, W8.setCell ⟨c13, 1, none⟩ (.slice none 0 0) = W := ⟨_, rfl⟩
    have kp9 : Kp (fun k => k = c13) W8 W9 := by rw [← hW9]; exact Kp.setCell (D := fun k => k = c13) (Kp.refl _ _) (p := ⟨c13, 1, none⟩) rfl _
    have x9 : W9.heap[c13]? = some (.cells #[.slice none 0 0, .slice none 0 0] 29 (0, 0)) := by rw [← hW9]; exact setCell_block (unhide X8)
    have G9 := hide ((unhide G8).kp kp9 (unhide NEQ))
    have B9 : Hid (Below w.heap.size w W9) := hide (by rw [← hW9]; exact (unhide B8).setCell (p := ⟨c13, 1, none⟩) (by exact unhide HSZ) _)
    have d0 : W9.cell? ⟨c13, 0, none⟩ = some (.slice none 0 0) := (cell_of_block x9).trans rfl
    have d1 : W9.cell? ⟨c13, 1, none⟩ = some (.slice none 0 0) := (cell_of_block x9).trans rfl

    have HE : Hid (sealNo [⟨1, 2, b, ms⟩] ⟨1, 2, b, ms⟩ ix 1 [] [] = 2) := hide (refuse_check (gs := [⟨1, 2, b, ms⟩]) rfl (show b < ix by have h1 := unhide HIX; have h2 := unhide HY; omega) (Or.inl rfl) (c := 2) rfl (by decide))
    have C9 := seal_no (l := ⟨1, 2, b, ms⟩) (unhide G9) (show 1 ≤ 1000000 by decide) rfl ix 1 none none 0 0 0 0 [] [] rfl rfl (by decide) (by decide) (IntsR.nil _ _) (IntsR.nil _ _) (by rw [unhide HE]; decide)
    rw [unhide HE] at C9
    replace C9 := hide C9

    have HW9 := hide hW9
    clear kp9 x9 hW9
    go_upto_region 24 with fail
    rw [unhide HW9]

    go_wp2_with fail
    refine (unhide C9).mono ?_
    rintro e w10 ⟨rfl, z10⟩
    have B10 := hide (below_far (unhide B9) z10)
    have G10 := hide ((unhide G9).below z10)
    have C10 := hide (all_any (unhide G10) (n := 1) rfl (by decide))
    clear z10 C9 G9 a0 a1 fa
    go_wp2_with fail
    refine (unhide C10).mono ?_
    rintro e w11 ⟨bl, rfl, -, z11⟩
    have B11 := hide (below_far (unhide B10) z11)
    have G11 := hide ((unhide G10).below z11)
    have C11 := now_any (unhide G11) (show 1 ≤ 1000000 by decide) rfl
    unfold gnV at C11
    simp only at C11
    have C11' := hide C11
    clear z11 C10 G10 C11
    go_wp2_with fail
    refine (unhide C11').mono ?_
    rintro e w12 ⟨bn, rfl, -, z12⟩
    have B12 := hide (below_far (unhide B11) z12)
    have G12 := hide ((unhide G11).below z12)
    have C12 := hide (unhide CP' w12)
    clear z12 C11' G11
    go_wp2_with fail
    refine (unhide C12).mono ?_
    rintro e w13 ⟨an2, n2, cn2, rfl, hn2, -, hfr2, z13⟩
    have hn27 : n2 ≤ 7 := by rw [← hn2]; exact (unhide HP).2.1
    have B13 := hide (below_far (unhide B12) z13)
    have G13 := (unhide G12).below z13
    have C13 := hide (seal_ok (l := ⟨1, 2, b, ms⟩) G13 (show 1 ≤ 1000000 by decide) rfl bb 1 none an2 0 0 n2 cn2 [] ms rfl hn2 (by decide) (by omega) (IntsR.nil _ _) hfr2.1 (seal_pl (unhide HP) (gs := [⟨1, 2, b, ms⟩]) (l := ⟨1, 2, b, ms⟩) rfl (show 1 < 60 by decide) (Or.inl rfl) (show b < bb by have h := unhide HBB; omega)))
    clear z13 hn2 hfr2 hn27 G13 C12 G12
    go_wp2_with fail
    refine (unhide C13).mono ?_
    rintro e w14 ⟨rfl, g14, k14⟩
    replace g14 : Gs (News D w13 w14) w14 p [⟨1, 2, b, ms⟩, ⟨2, 1, bb, ms⟩] := g14
    have B14 := hide ((unhide B13).trans (k14.below (base := w.heap.size) (unhide HD) (unhide B13).size))
    have C14 := now_any g14 (show 2 ≤ 1000000 by decide) rfl
    unfold gnV at C14
    simp only at C14
    have C14' := hide C14
    clear g14 k14 C13 C14
    go_wp2_with fail
    refine (unhide C14').mono ?_
    rintro e w15 ⟨bn2, rfl, -, z15⟩
    have B15 := hide (below_far (unhide B14) z15)
    clear z15 C14'
    go_wp2
    go_ret
    exact ⟨rfl, unhide B15⟩
  · obtain ⟨V, hV⟩ : ∃ V, W8.alloc (.cells #[.int .i64 0] 3) = V := ⟨_, rfl⟩
    have zV : Below W8.heap.size W8 V := by rw [← hV]; exact (Below.refl _ _).alloc (Nat.le_refl _) _
    have iV : IntsR V (some ⟨W8.heap.size, 0, none⟩) [0] := by rw [← hV]; exact ints_at W8 _
    have xV := Below.stay zV (unhide X8)
    obtain ⟨W9, hW9⟩ : ∃ W, V.setCell ⟨c13, 0, none⟩ (.slice (some ⟨W8.heap.size, 0, none⟩) 1 1) = W := ⟨_, rfl⟩
    have kp9 : Kp (fun k => k = c13) V W9 := by rw [← hW9]; exact Kp.setCell (D := fun k => k = c13) (Kp.refl _ _) (p := ⟨c13, 0, none⟩) rfl _
    have x9 : W9.heap[c13]? = some (.cells #[.slice (some ⟨W8.heap.size, 0, none⟩) 1 1, .slice am m cm] 29 (0, 0)) := by rw [← hW9]; exact setCell_block xV
    have G9 := hide (((unhide G8).below zV).kp kp9 (unhide NEQ))
    have B9 : Hid (Below w.heap.size w W9) := hide (by rw [← hW9]; exact (below_far (unhide B8) zV).setCell (p := ⟨c13, 0, none⟩) (by exact unhide HSZ) _)
    have i9 : IntsR W9 (some ⟨W8.heap.size, 0, none⟩) [0] := fun j hj => by
      obtain ⟨a, e, hc⟩ := iV j hj
      cases e
      exact ⟨_, rfl, kp9.cell hc (fun e => by rw [add_block] at e; have h := unhide HS8; simp at e; omega)⟩
    have I9 : Hid (IntsR W9 am ms1) := hide (((unhide I7').below zV).kp kp9 (fun k hk e => by subst e; exact Nat.lt_irrefl _ hk)).ints
    have d0 : W9.cell? ⟨c13, 0, none⟩ = some (.slice (some ⟨W8.heap.size, 0, none⟩) 1 1) := (cell_of_block x9).trans rfl
    have d1 : W9.cell? ⟨c13, 1, none⟩ = some (.slice am m cm) := (cell_of_block x9).trans rfl
    have v0 : V.cell? ⟨c13, 0, none⟩ = some (.slice none 0 0) := (cell_of_block xV).trans rfl
    have v1 : V.cell? ⟨c13, 1, none⟩ = some (.slice am m cm) := (cell_of_block xV).trans rfl
    have fv : ∀ i, V.frozen? ⟨c13, i, none⟩ = false := fun i => free_of_block xV

    have HE : Hid (sealNo [⟨1, 2, b, ms⟩] ⟨1, 2, b, ms⟩ ix 1 [0] ms1 = 1) := hide (refuse_joint (gs := [⟨1, 2, b, ms⟩]) rfl (show b < ix by have h1 := unhide HIX; have h2 := unhide HY; omega) (Or.inl rfl) (unhide HP1).check0 (by decide))
    have C9 := seal_no (l := ⟨1, 2, b, ms⟩) (unhide G9) (show 1 ≤ 1000000 by decide) rfl ix 1 (some ⟨W8.heap.size, 0, none⟩) am 1 1 m cm [0] ms1 rfl (unhide HM) (by decide) (by omega) i9 (unhide I9) (by rw [unhide HE]; decide)
    rw [unhide HE] at C9
    replace C9 := hide C9

    have HW9 := hide hW9
    clear kp9 x9 hW9 zV iV xV i9
    go_upto_region 24 with fail
    rw [unhide HW9]
    clear v0 v1 fv hV

    go_wp2_with fail
    refine (unhide C9).mono ?_
    rintro e w10 ⟨rfl, z10⟩
    have B10 := hide (below_far (unhide B9) z10)
    have G10 := hide ((unhide G9).below z10)
    have C10 := hide (all_any (unhide G10) (n := 1) rfl (by decide))
    clear z10 C9 G9 a0 a1 fa
    go_wp2_with fail
    refine (unhide C10).mono ?_
    rintro e w11 ⟨bl, rfl, -, z11⟩
    have B11 := hide (below_far (unhide B10) z11)
    have G11 := hide ((unhide G10).below z11)
    have C11 := now_any (unhide G11) (show 1 ≤ 1000000 by decide) rfl
    unfold gnV at C11
    simp only at C11
    have C11' := hide C11
    clear z11 C10 G10 C11
    go_wp2_with fail
    refine (unhide C11').mono ?_
    rintro e w12 ⟨bn, rfl, -, z12⟩
    have B12 := hide (below_far (unhide B11) z12)
    have G12 := hide ((unhide G11).below z12)
    have C12 := hide (unhide CP' w12)
    clear z12 C11' G11
    go_wp2_with fail
    refine (unhide C12).mono ?_
    rintro e w13 ⟨an2, n2, cn2, rfl, hn2, -, hfr2, z13⟩
    have hn27 : n2 ≤ 7 := by rw [← hn2]; exact (unhide HP).2.1
    have B13 := hide (below_far (unhide B12) z13)
    have G13 := (unhide G12).below z13
    have C13 := hide (seal_ok (l := ⟨1, 2, b, ms⟩) G13 (show 1 ≤ 1000000 by decide) rfl bb 1 none an2 0 0 n2 cn2 [] ms rfl hn2 (by decide) (by omega) (IntsR.nil _ _) hfr2.1 (seal_pl (unhide HP) (gs := [⟨1, 2, b, ms⟩]) (l := ⟨1, 2, b, ms⟩) rfl (show 1 < 60 by decide) (Or.inl rfl) (show b < bb by have h := unhide HBB; omega)))
    clear z13 hn2 hfr2 hn27 G13 C12 G12
    go_wp2_with fail
    refine (unhide C13).mono ?_
    rintro e w14 ⟨rfl, g14, k14⟩
    replace g14 : Gs (News D w13 w14) w14 p [⟨1, 2, b, ms⟩, ⟨2, 1, bb, ms⟩] := g14
    have B14 := hide ((unhide B13).trans (k14.below (base := w.heap.size) (unhide HD) (unhide B13).size))
    have C14 := now_any g14 (show 2 ≤ 1000000 by decide) rfl
    unfold gnV at C14
    simp only at C14
    have C14' := hide C14
    clear g14 k14 C13 C14
    go_wp2_with fail
    refine (unhide C14').mono ?_
    rintro e w15 ⟨bn2, rfl, -, z15⟩
    have B15 := hide (below_far (unhide B14) z15)
    clear z15 C14'
    go_wp2
    go_ret
    exact ⟨rfl, unhide B15⟩
  · obtain ⟨z, hz⟩ : ∃ z, IntKind.i64.wrap (-y) = z := ⟨_, rfl⟩
    have HZ : Hid (z ≤ -1) := hide (by rw [← hz, IntWalk.i64_in _ (by have h2 := unhide HY; omega)]; have h2 := unhide HY; omega)

    obtain ⟨V, hV⟩ : ∃ V, W8.alloc (.cells #[.int .i64 z] 3) = V := ⟨_, rfl⟩
    have zV : Below W8.heap.size W8 V := by rw [← hV]; exact (Below.refl _ _).alloc (Nat.le_refl _) _
    have iV : IntsR V (some ⟨W8.heap.size, 0, none⟩) [z] := by rw [← hV]; exact ints_at W8 _
    have xV := Below.stay zV (unhide X8)
    obtain ⟨W9, hW9⟩ : ∃ W, V.setCell ⟨c13, 1, none⟩ (.slice (some ⟨W8.heap.size, 0, none⟩) 1 1) = W := ⟨_, rfl⟩
    have kp9 : Kp (fun k => k = c13) V W9 := by rw [← hW9]; exact Kp.setCell (D := fun k => k = c13) (Kp.refl _ _) (p := ⟨c13, 1, none⟩) rfl _
    have x9 : W9.heap[c13]? = some (.cells #[.slice none 0 0, .slice (some ⟨W8.heap.size, 0, none⟩) 1 1] 29 (0, 0)) := by rw [← hW9]; exact setCell_block xV
    have G9 := hide (((unhide G8).below zV).kp kp9 (unhide NEQ))
    have B9 : Hid (Below w.heap.size w W9) := hide (by rw [← hW9]; exact (below_far (unhide B8) zV).setCell (p := ⟨c13, 1, none⟩) (by exact unhide HSZ) _)
    have i9 : IntsR W9 (some ⟨W8.heap.size, 0, none⟩) [z] := fun j hj => by
      obtain ⟨a, e, hc⟩ := iV j hj
      cases e
      exact ⟨_, rfl, kp9.cell hc (fun e => by rw [add_block] at e; have h := unhide HS8; simp at e; omega)⟩
    have I9 : Hid (IntsR W9 am ms1) := hide (((unhide I7').below zV).kp kp9 (fun k hk e => by subst e; exact Nat.lt_irrefl _ hk)).ints
    have d0 : W9.cell? ⟨c13, 0, none⟩ = some (.slice none 0 0) := (cell_of_block x9).trans rfl
    have d1 : W9.cell? ⟨c13, 1, none⟩ = some (.slice (some ⟨W8.heap.size, 0, none⟩) 1 1) := (cell_of_block x9).trans rfl
    have v0 : V.cell? ⟨c13, 0, none⟩ = some (.slice none 0 0) := (cell_of_block xV).trans rfl
    have v1 : V.cell? ⟨c13, 1, none⟩ = some (.slice am m cm) := (cell_of_block xV).trans rfl
    have fv : ∀ i, V.frozen? ⟨c13, i, none⟩ = false := fun i => free_of_block xV

    have HE : Hid (sealNo [⟨1, 2, b, ms⟩] ⟨1, 2, b, ms⟩ ix 1 [] [z] = 1) := hide (refuse_check (gs := [⟨1, 2, b, ms⟩]) rfl (show b < ix by have h1 := unhide HIX; have h2 := unhide HY; omega) (Or.inl rfl) (c := 1) (check_low (unhide HZ)) (by decide))
    have C9 := seal_no (l := ⟨1, 2, b, ms⟩) (unhide G9) (show 1 ≤ 1000000 by decide) rfl ix 1 none (some ⟨W8.heap.size, 0, none⟩) 0 0 1 1 [] [z] rfl rfl (by decide) (by decide) (IntsR.nil _ _) i9 (by rw [unhide HE]; decide)
    rw [unhide HE] at C9
    replace C9 := hide C9

    have HW9 := hide hW9
    clear kp9 x9 hW9 zV iV xV i9
    go_upto_region 24 with fail
    rw [unhide HW9]
    clear v0 v1 fv hV

    go_wp2_with fail
    refine (unhide C9).mono ?_
    rintro e w10 ⟨rfl, z10⟩
    have B10 := hide (below_far (unhide B9) z10)
    have G10 := hide ((unhide G9).below z10)
    have C10 := hide (all_any (unhide G10) (n := 1) rfl (by decide))
    clear z10 C9 G9 a0 a1 fa
    go_wp2_with fail
    refine (unhide C10).mono ?_
    rintro e w11 ⟨bl, rfl, -, z11⟩
    have B11 := hide (below_far (unhide B10) z11)
    have G11 := hide ((unhide G10).below z11)
    have C11 := now_any (unhide G11) (show 1 ≤ 1000000 by decide) rfl
    unfold gnV at C11
    simp only at C11
    have C11' := hide C11
    clear z11 C10 G10 C11
    go_wp2_with fail
    refine (unhide C11').mono ?_
    rintro e w12 ⟨bn, rfl, -, z12⟩
    have B12 := hide (below_far (unhide B11) z12)
    have G12 := hide ((unhide G11).below z12)
    have C12 := hide (unhide CP' w12)
    clear z12 C11' G11
    go_wp2_with fail
    refine (unhide C12).mono ?_
    rintro e w13 ⟨an2, n2, cn2, rfl, hn2, -, hfr2, z13⟩
    have hn27 : n2 ≤ 7 := by rw [← hn2]; exact (unhide HP).2.1
    have B13 := hide (below_far (unhide B12) z13)
    have G13 := (unhide G12).below z13
    have C13 := hide (seal_ok (l := ⟨1, 2, b, ms⟩) G13 (show 1 ≤ 1000000 by decide) rfl bb 1 none an2 0 0 n2 cn2 [] ms rfl hn2 (by decide) (by omega) (IntsR.nil _ _) hfr2.1 (seal_pl (unhide HP) (gs := [⟨1, 2, b, ms⟩]) (l := ⟨1, 2, b, ms⟩) rfl (show 1 < 60 by decide) (Or.inl rfl) (show b < bb by have h := unhide HBB; omega)))
    clear z13 hn2 hfr2 hn27 G13 C12 G12
    go_wp2_with fail
    refine (unhide C13).mono ?_
    rintro e w14 ⟨rfl, g14, k14⟩
    replace g14 : Gs (News D w13 w14) w14 p [⟨1, 2, b, ms⟩, ⟨2, 1, bb, ms⟩] := g14
    have B14 := hide ((unhide B13).trans (k14.below (base := w.heap.size) (unhide HD) (unhide B13).size))
    have C14 := now_any g14 (show 2 ≤ 1000000 by decide) rfl
    unfold gnV at C14
    simp only at C14
    have C14' := hide C14
    clear g14 k14 C13 C14
    go_wp2_with fail
    refine (unhide C14').mono ?_
    rintro e w15 ⟨bn2, rfl, -, z15⟩
    have B15 := hide (below_far (unhide B14) z15)
    clear z15 C14'
    go_wp2
    go_ret
    exact ⟨rfl, unhide B15⟩
end Go.Proofs.Ytgllokinadjiaaa

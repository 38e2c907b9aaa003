/- ConfMeet: the walk. -/
import Derived.Test.YthemdkfmlkaifaaKLeave
import Derived.Test.YthemdkfmlkaifaaKKnown
import Derived.Test.YthemdkfmlkaifaaKSameC
import Derived.Test.YthemdkfmlkaifaaKGood
import Derived.Deep.RegionHeldLaw
namespace Go.Proofs.Ythemdkfmlkaifaa
open Go.RowKit

theorem contains_take {ys : List Int} {j : Nat} (h : j < ys.length) (x : Int) : (ys.take (j + 1)).contains x = ((ys.take j).contains x || (x == ys.getD j 0)) := by
  rw [take_succ ys 0 j h, Bool.eq_iff_iff, List.contains_iff_mem, List.mem_append, Bool.or_eq_true, List.contains_iff_mem, List.mem_singleton, beq_iff_eq]
theorem any_take {xs ys : List Int} {j : Nat} (h : j < xs.length) : (xs.take (j + 1)).any (ys.contains ·) = ((xs.take j).any (ys.contains ·) || ys.contains (xs.getD j 0)) := by
  rw [take_succ xs 0 j h, List.any_append]; simp
theorem no_common {xs ys : List Int} (h : xs.any (ys.contains ·) = false) : ∀ a, a ∈ xs → a ∈ ys → False := fun a h1 h2 => by
  rw [List.any_eq_false] at h
  exact h a h1 (by rw [List.contains_iff_mem]; exact h2)
theorem barred_same (cs : List Int) (hu : Up cs) (hl : cs.length ≤ 7) (hn : cs ≠ []) : barredOf [] cs cs = 7 := by
  unfold barredOf
  rw [if_neg (by simp), if_pos (check_good Up.nil (by simp) hu hl hn), if_pos rfl]
theorem barred_free {cs ts : List Int} (hu : Up ts) (hl : ts.length ≤ 7) (hn : ts ≠ []) (h : ¬ cs = ts) : barredOf [] cs ts = 0 := by
  unfold barredOf
  rw [if_neg (by simp), if_pos (check_good Up.nil (by simp) hu hl hn), if_neg (fun e => h e.symm)]
/-- numbers do not lie in a box of slices. -/
theorem IntsR.apart {w : World} {ao : Option Addr} {xs : List Int} (h : IntsR w ao xs) (hne : xs ≠ []) {B : Nat} {o1 o2 : Option Addr} {n1 n2 c1 c2 : Nat} {t : TypeId} {fr : Nat × Nat} (hB : w.heap[B]? = some (.cells #[.slice o1 n1 c1, .slice o2 n2 c2] t fr)) : ∀ a, ao = some a → a.block ≠ B := fun a ha hb => by
  obtain ⟨a', e, hc⟩ := h 0 (List.length_pos_iff.2 hne)
  rw [ha] at e; cases e
  have hh : w.heap[(a.add 0).block]? = some (.cells #[.slice o1 n1 c1, .slice o2 n2 c2] t fr) := by rw [add_block, hb]; exact hB
  simp only [World.cell?, hh] at hc
  split at hc
  · cases hc
  · have := Array.mem_of_getElem? hc
    simp at this
theorem Fr.far {y W : World} {ao : Option Addr} {xs : List Int} (h : Fr y ao xs) {B : Nat} {o1 o2 : Option Addr} {n1 n2 c1 c2 : Nat} {t : TypeId} {fr : Nat × Nat} (hB : y.heap[B]? = some (.cells #[.slice o1 n1 c1, .slice o2 n2 c2] t fr)) (hk : ∀ k, k ≠ B → W.heap[k]? = y.heap[k]?) : Fr W ao xs := by
  by_cases hx : xs = []
  · subst hx; exact ⟨IntsR.nil _ _, h.2⟩
  · exact h.other hk (h.1.apart hx hB)
theorem two_box {y : World} {B : Nat} {a b x0 x1 : Value} {t : TypeId} (hz : y.heap[B]? = some (.cells #[x0, x1] t (0, 0))) : ((y.setCell ⟨B, 0, none⟩ a).setCell ⟨B, 1, none⟩ b).heap[B]? = some (.cells #[a, b] t (0, 0)) := by
  simp [World.setCell, Array.getElem?_modify, hz]
/-- quorums that share nobody are not both quorums. -/
theorem meet_all {cs ts xs ys : List Int} (hc : cs ≠ []) (h : ∀ a, a ∈ xs → a ∈ ys → False) :
    (quorumOf [] cs xs = true → quorumOf [] cs ys = false ∧ quorumOf cs ts ys = false) ∧ (quorumOf cs ts xs = true → quorumOf cs ts ys = false ∧ quorumOf [] ts ys = false) ∧ (quorumOf [] ts xs = true → quorumOf [] ts ys = false) := by
  have he : cs.isEmpty = false := by cases cs with
    | nil => exact absurd rfl hc
    | cons => rfl
  have h1 := half_two (l := cs) h
  have h2 := half_two (l := ts) h
  unfold quorumOf
  rw [he]
  simp only [List.isEmpty_nil, Bool.true_or, Bool.and_true, Bool.false_or]
  cases e1 : half cs xs <;> cases e2 : half cs ys <;> cases e3 : half ts xs <;> cases e4 : half ts ys <;> simp_all

set_option maxRecDepth 20000 in
set_option maxHeartbeats 8000000 in
theorem meet_walk (now to' xa xb : Int) (w : World) : Calls Try.prog 5 #[.int .i64 now, .int .i64 to', .int .i64 xa, .int .i64 xb] w fun e w' => e = .returned (.bool true) ∧ Below w.heap.size w w' := by
  have KN := hide (known_any w)
  go_enter Try.func5, Try.ntmps5
  go_wp2_with fail
  refine (unhide KN).mono ?_
  rintro e w1 ⟨rfl, b1⟩
  have B1 := hide b1
  have PL := hide (plain_any now w1)
  clear b1 KN
  go_wp2_with fail
  refine (unhide PL).mono ?_
  rintro e w2 ⟨an, nn, cn, rfl, hn, hnc, fr, b2⟩
  obtain ⟨cs, hcs⟩ : ∃ cs, plainOf (bitOf now) = cs := ⟨_, rfl⟩
  obtain ⟨ts, hts⟩ : ∃ ts, plainOf (bitOf to') = ts := ⟨_, rfl⟩
  have U0 : Hid (Up cs ∧ cs.length ≤ 7 ∧ cs ≠ []) := by rw [← hcs]; exact ⟨plain_Up _, plain_len _, plain_ne _⟩
  have U1 : Hid (Up ts ∧ ts.length ≤ 7 ∧ ts ≠ []) := by rw [← hts]; exact ⟨plain_Up _, plain_len _, plain_ne _⟩
  rw [hcs] at hn fr
  obtain ⟨A0, hA0, bA0, xA0, -⟩ := boxed w2 (.slice none 0 0) (.slice an nn cn)
  have HA0 := hide hA0
  have BA0 := hide (((unhide B1).trans (b2.mono (unhide B1).size)).trans (bA0.mono ((unhide B1).trans (b2.mono (unhide B1).size)).size))
  have S0 := hide (fun (Y : World) (h : Below A0.heap.size A0 Y) => And.intro (Below.stay h xA0) ((fr.below bA0).below h))
  have SX0 := hide (fun (Y : World) (h : Below A0.heap.size A0 Y) => two_cells (Below.stay h xA0))
  have ENN := hide hn
  have hnn7 : nn ≤ 7 := by rw [← hn]; exact (unhide U0).2.1
  have PT := hide (fun (Y : World) => plain_any to' Y)
  rw [hts] at PT
  have E0 := hide (Below.refl A0.heap.size A0).drew
  clear hcs hts hn fr b2 hA0 bA0 xA0 PL B1 hnc
  go_upto_region 4 with fail
  rw [unhide HA0]
  clear HA0
  have fnw := fun (at' : Option Addr) (nt ct : Nat) (w : World) => show (Instr.field 24 (.agg #[.slice none 0 0, .slice at' nt ct]) 1).run Try.prog w = .ok (.slice at' nt ct) w by kernel_rfl
  obtain ⟨r, hr⟩ : ∃ r, barredOf [] cs ts = r := ⟨_, rfl⟩
  have HRB := hide hr
  clear hr
  go_cut [10, 11] from 23 to 30 (fun s10 s11 wc => ∃ (B : Nat) (jo : Option Addr) (n1 p1 : Nat) (jn : Option Addr) (n2 p2 : Nat), s10 = .pointer (some ⟨B, 0, none⟩) ∧ s11 = .int .i64 (r : Int) ∧ wc.heap[B]? = some (.cells #[.slice jo n1 p1, .slice jn n2 p2] 24 (0, 0)) ∧ (entO [] cs ts).length = n1 ∧ Fr wc jo (entO [] cs ts) ∧ (entN [] cs ts).length = n2 ∧ Fr wc jn (entN [] cs ts) ∧ Below A0.heap.size A0 wc)
  case first =>
    have EN := hide (fun (Y : World) (h : Below A0.heap.size A0 Y) (at' : Option Addr) (nt ct : Nat) (ent : ts.length = nt) (hi : IntsR Y at' ts) => enter_any none an at' 0 nn nt 0 cn ct [] cs ts rfl (unhide ENN) ent (by decide) (by omega) (by have := (unhide U1).2.1; omega) Y (unhide S0 _ h).2.1 hi)
    rw [unhide HRB] at EN
    have ZA : Hid ((A0.drew.alloc (.cells #[.slice none 0 0, .slice none 0 0] 24)).heap[A0.heap.size]? = some (.cells #[.slice none 0 0, .slice none 0 0] 24 (0, 0))) := box_at A0.drew _
    first
    | (go_region_held_law (fun Y => Y.cell? ⟨w2.heap.size, 0, none⟩ = some (.slice none 0 0) ∧ Y.cell? ⟨w2.heap.size, 1, none⟩ = some (.slice an nn cn))
        (first
          | exact unhide SX0 _ (unhide E0)
          | exact unhide SX0 _ ((unhide E0).alloc (unhide E0).size _)
          | exact unhide SX0 _ (unhide E1)
          | exact unhide SX0 _ ((unhide E1).alloc (unhide E1).size _)
          | exact unhide SX0 _ (unhide E2)
          | exact unhide SX0 _ ((unhide E2).alloc (unhide E2).size _)
          | exact unhide SX0 _ (((unhide E2).setCell (p := ⟨A0.heap.size, 0, none⟩) (Nat.le_refl _) _).setCell (p := ⟨A0.heap.size, 1, none⟩) (Nat.le_refl _) _)
          | exact unhide SX0 _ (((unhide E2).setCell (p := ⟨w3.heap.size, 0, none⟩) (unhide E1).size _).setCell (p := ⟨w3.heap.size, 1, none⟩) (unhide E1).size _))
        (first
          | (go_at_call 29
             refine (unhide PT (A0.drew.alloc (.cells #[.slice none 0 0, .slice none 0 0] 24))).mono ?_
             rintro e w3 ⟨at', nt, ct, rfl, ent, htc, ft, b3⟩
             have E1 := hide (((unhide E0).alloc (unhide E0).size (.cells #[.slice none 0 0, .slice none 0 0] 24)).trans (b3.mono ((unhide E0).alloc (unhide E0).size _).size))
             have Z3 := hide (Below.stay b3 (unhide ZA))
             have ENT := hide ent
             have FT := hide ft.1
             clear ent ft b3)
          | (go_at_call 29
             refine (unhide PT A0.drew).mono ?_
             rintro e w3 ⟨at', nt, ct, rfl, ent, htc, ft, b3⟩
             have E1 := hide ((unhide E0).trans (b3.mono (unhide E0).size))
             have ENT := hide ent
             have FT := hide ft.1
             clear ent ft b3)
          | (go_at_call 25
             refine (unhide EN (w3.alloc (.cells #[.slice none 0 0, .slice none 0 0] 24)) ((unhide E1).alloc (unhide E1).size _) at' nt ct (unhide ENT) ((unhide FT).below ((Below.refl _ w3).alloc (Nat.le_refl _) _))).mono ?_
             rintro e w4 ⟨v4, rfl, ⟨jo, n1, p1, jn, n2, p2, rfl, e1, l1, fj, e2, l2, gj⟩, b4⟩
             have E2 := hide (((unhide E1).alloc (unhide E1).size (.cells #[.slice none 0 0, .slice none 0 0] 24)).trans (b4.mono ((unhide E1).alloc (unhide E1).size _).size))
             have X10 := hide (Below.stay b4 (box_at w3 (.cells #[.slice none 0 0, .slice none 0 0] 24)))
             obtain ⟨c0, c1⟩ := two_cells (unhide X10)
             obtain ⟨g0, g1⟩ := two_free (unhide X10)
             have RES := hide (And.intro e1 (And.intro fj (And.intro e2 gj)))
             clear b4 e1 fj e2 gj)
          | (go_at_call 25
             refine (unhide EN w3 (unhide E1) at' nt ct (unhide ENT) (unhide FT)).mono ?_
             rintro e w4 ⟨v4, rfl, ⟨jo, n1, p1, jn, n2, p2, rfl, e1, l1, fj, e2, l2, gj⟩, b4⟩
             have E2 := hide ((unhide E1).trans (b4.mono (unhide E1).size))
             have X10 := hide (Below.stay b4 (unhide Z3))
             obtain ⟨c0, c1⟩ := two_cells (unhide X10)
             obtain ⟨g0, g1⟩ := two_free (unhide X10)
             have RES := hide (And.intro e1 (And.intro fj (And.intro e2 gj)))
             clear b4 e1 fj e2 gj)
          | (go_at_call 25
             refine (unhide EN w3 (unhide E1) at' nt ct (unhide ENT) (unhide FT)).mono ?_
             rintro e w4 ⟨v4, rfl, ⟨jo, n1, p1, jn, n2, p2, rfl, e1, l1, fj, e2, l2, gj⟩, b4⟩
             have E2 := hide ((unhide E1).trans (b4.mono (unhide E1).size))
             have RES := hide (And.intro e1 (And.intro fj (And.intro e2 gj)))
             clear b4 e1 fj e2 gj)))
    | fail
    · go_wp2
      go_meet
      obtain ⟨e1, fj, e2, gj⟩ := unhide RES
      have bb : Below w4.heap.size w4 (w4.alloc (.cells #[.slice jo n1 p1, .slice jn n2 p2] 24)) := (Below.refl _ w4).alloc (Nat.le_refl _) _
      exact ⟨_, jo, n1, p1, jn, n2, p2, rfl, rfl, box_at w4 _, e1, fj.below bb, e2, gj.below bb, (unhide E2).trans (bb.mono (unhide E2).size)⟩
    · go_wp2
      go_meet
      obtain ⟨e1, fj, e2, gj⟩ := unhide RES
      obtain ⟨_, _, rb, rk⟩ := two_end (a := .slice jo n1 p1) (b := .slice jn n2 p2) (unhide X10) (unhide E1).size (unhide E2)
      exact ⟨_, jo, n1, p1, jn, n2, p2, rfl, rfl, two_box (unhide X10), e1, fj.far (unhide X10) rk, e2, gj.far (unhide X10) rk, rb⟩
    · go_wp2
      go_meet
      obtain ⟨e1, fj, e2, gj⟩ := unhide RES
      obtain ⟨_, _, rb, rk⟩ := two_end (a := .slice jo n1 p1) (b := .slice jn n2 p2) (unhide X10) (Nat.le_refl _) (unhide E2)
      exact ⟨_, jo, n1, p1, jn, n2, p2, rfl, rfl, two_box (unhide X10), e1, fj.far (unhide X10) rk, e2, gj.far (unhide X10) rk, rb⟩
  case rest =>
  obtain ⟨B, jo, n1, p1, jn, n2, p2, rfl, rfl, xB, e1, fj, e2, gj, b5⟩ := hcut
  have E5 := hide b5
  have SB := hide (fun (Y : World) (h : Below wc.heap.size wc Y) => And.intro (unhide S0 Y (b5.trans (h.mono b5.size))) (And.intro (Below.stay h xB) (And.intro (fj.below h) (gj.below h))))
  have HE1 := hide e1
  have HE2 := hide e2
  have BC := hide ((unhide BA0).trans (b5.mono (unhide BA0).size))
  clear xB e1 fj e2 gj b5 SX0 E0
  by_cases hsame : cs = ts
  · obtain rfl : r = 7 := by rw [← unhide HRB, ← hsame]; exact barred_same cs (unhide U0).1 (unhide U0).2.1 (unhide U0).2.2
    have ESM : Hid (sameOf [] cs [] ts = true) := by show _ = _; unfold sameOf; rw [decide_eq_true rfl, decide_eq_true hsame]; rfl
    clear hsame
    go_upto_region 6 with fail
    have ED := hide (Below.refl wc.heap.size wc).drew
    have SX := hide (fun (Y : World) (h : Below wc.heap.size wc Y) => two_cells (unhide SB Y h).1.1)
    first
    | (go_region_held_law (fun Y => Y.cell? ⟨w2.heap.size, 0, none⟩ = some (.slice none 0 0) ∧ Y.cell? ⟨w2.heap.size, 1, none⟩ = some (.slice an nn cn))
        (first | exact unhide SX _ (unhide ED) | exact unhide SX _ (unhide E6) | exact unhide SX _ (unhide E7))
        (first
          | (go_at_call 29
             refine (unhide PT _).mono ?_
             rintro e w6 ⟨at', nt, ct, rfl, ent, htc, ft, b6⟩
             have E6 := hide ((unhide ED).trans (b6.mono (unhide ED).size))
             have SM := hide (same_any none an none at' 0 nn 0 cn 0 nt 0 ct [] cs [] ts rfl (unhide ENN) rfl ent (by decide) (by omega) w6 (IntsR.nil _ _) (unhide SB _ (unhide E6)).1.2.1 (IntsR.nil _ _) ft.1)
             rw [unhide ESM] at SM
             clear ent ft b6)
          | (go_at_call 22
             refine (unhide SM).mono ?_
             rintro e w7 ⟨rfl, b7⟩
             have E7 := hide ((unhide E6).trans (b7.mono (unhide E6).size))
             clear b7 SM)))
    | fail
    go_wp2
    go_ret
    exact ⟨rfl, (unhide BC).trans ((unhide E7).mono (unhide BC).size)⟩
  · obtain rfl : r = 0 := by rw [← unhide HRB]; exact barred_free (unhide U1).1 (unhide U1).2.1 (unhide U1).2.2 hsame
    have EO : Hid (entO [] cs ts = cs ∧ entN [] cs ts = ts) := by
      unfold entO entN
      rw [unhide HRB]
      exact ⟨rfl, rfl⟩
    rw [(unhide EO).1] at HE1
    rw [(unhide EO).2] at HE2
    rw [(unhide EO).1, (unhide EO).2] at SB
    obtain rfl : nn = n1 := (unhide ENN).symm.trans (unhide HE1)
    have hn27 : n2 ≤ 7 := by rw [← unhide HE2]; exact (unhide U1).2.1
    clear hsame EO
    obtain ⟨⟨x5, f5⟩, xB, fj, gj⟩ := unhide SB wc (Below.refl _ _)
    obtain ⟨d0, d1⟩ := two_cells xB
    have LV := hide (leave_any jo jn nn n2 p1 p2 cs ts (unhide ENN) (unhide HE2) (by omega) wc gj.1)
    have hlv : leaveOf cs = 0 ∧ leaveN cs ts = ts := by
      unfold leaveOf leaveN
      rw [if_neg (unhide U0).2.2, if_neg (unhide U0).2.2]; exact ⟨rfl, rfl⟩
    rw [hlv.1, hlv.2] at LV
    clear x5 f5 xB fj gj hlv HE1
    go_wp2_with fail
    refine (unhide LV).mono ?_
    rintro e w6 ⟨v6, rfl, ⟨go, n5, p5, gn, n6, p6, rfl, e5, _, fgo, e6, hc6, fgn⟩, b6⟩
    simp only [List.length_nil] at e5
    subst e5
    obtain rfl : n2 = n6 := (unhide HE2).symm.trans e6
    obtain ⟨A1, hA1, bA1, xA1, -⟩ := boxed w6 (.slice go 0 p5) (.slice gn n2 p6)
    have b61 := b6.trans (bA1.mono b6.size)
    have HA1 := hide hA1
    have BD := hide ((unhide BC).trans (b61.mono (unhide BC).size))
    have SC := hide (fun (Y : World) (h : Below A1.heap.size A1 Y) => And.intro (unhide SB Y (b61.trans (h.mono b61.size))) (And.intro (Below.stay h xA1) ((fgn.below bA1).below h)))
    clear hA1 bA1 xA1 b61 b6 LV d0 d1 e6 fgo fgn SB BC
    go_upto_region 8 with fail
    rw [unhide HA1]
    clear HA1
    have ED := hide (Below.refl A1.heap.size A1).drew
    have SX1 := hide (fun (Y : World) (h : Below A1.heap.size A1 Y) => two_cells (unhide SC Y h).2.1)
    first
    | (go_region_held_law (fun Y => Y.cell? ⟨w6.heap.size, 0, none⟩ = some (.slice go 0 p5) ∧ Y.cell? ⟨w6.heap.size, 1, none⟩ = some (.slice gn n2 p6))
        (first | exact unhide SX1 _ (unhide ED) | exact unhide SX1 _ (unhide E7) | exact unhide SX1 _ (unhide E8))
        (first
          | (go_at_call 29
             refine (unhide PT _).mono ?_
             rintro e w7 ⟨at', nt, ct, rfl, ent, htc, ft, b7⟩
             have E7 := hide ((unhide ED).trans (b7.mono (unhide ED).size))
             have SM := hide (same_any go gn none at' 0 n2 p5 p6 0 nt 0 ct [] ts [] ts rfl (unhide HE2) rfl ent (by decide) (by omega) w7 (IntsR.nil _ _) (unhide SC _ (unhide E7)).2.2.1 (IntsR.nil _ _) ft.1)
             rw [show sameOf [] ts [] ts = true by unfold sameOf; rw [decide_eq_true rfl, decide_eq_true rfl]; rfl] at SM
             clear ent ft b7)
          | (go_at_call 22
             refine (unhide SM).mono ?_
             rintro e w8 ⟨rfl, b8⟩
             have E8 := hide ((unhide E7).trans (b8.mono (unhide E7).size))
             clear b8 SM)))
    | fail
    have AX := hide (all_any xa w8)
    clear PT SX1 ED
    go_wp2_with fail
    refine (unhide AX).mono ?_
    rintro e w9 ⟨v9, rfl, o9, b9⟩
    have E9 := hide ((unhide E8).trans (b9.mono (unhide E8).size))
    have O9 := hide o9
    have AY := hide (all_any xb w9)
    clear o9 b9 AX
    go_wp2_with fail
    refine (unhide AY).mono ?_
    rintro e wA ⟨vA, rfl, oA, bA⟩
    obtain ⟨ax, cx, rfl, fx, _, _⟩ := ((unhide O9).below bA).slice
    obtain ⟨ay, cy, rfl, fy, _, _⟩ := oA.slice
    have EA := hide ((unhide E9).trans (bA.mono (unhide E9).size))
    obtain ⟨xs, hxs⟩ : ∃ xs, allOf (bitOf xa) 9 = xs := ⟨_, rfl⟩
    obtain ⟨ys, hys⟩ : ∃ ys, allOf (bitOf xb) 9 = ys := ⟨_, rfl⟩
    have hX9 : xs.length ≤ 9 := by rw [← hxs]; exact (all_up _ 9).2.2
    have hY9 : ys.length ≤ 9 := by rw [← hys]; exact (all_up _ 9).2.2
    rw [hxs] at fx
    rw [hys] at fy
    rw [hxs, hys]
    obtain ⟨X, hX⟩ : ∃ X, xs.length = X := ⟨_, rfl⟩
    obtain ⟨Yn, hY⟩ : ∃ Yn, ys.length = Yn := ⟨_, rfl⟩
    rw [hX] at hX9
    rw [hY] at hY9
    rw [hX, hY]
    have HX := hide hX
    have HY := hide hY
    have IX := hide (fun (Y : World) (h : Below wA.heap.size wA Y) => fx.1.below h)
    have IY := hide (fun (Y : World) (h : Below wA.heap.size wA Y) => fy.1.below h)
    have SD := hide (fun (Y : World) (h : Below wA.heap.size wA Y) => unhide SC Y ((unhide EA).trans (h.mono (unhide EA).size)))
    have BE := hide ((unhide BD).trans ((unhide EA).mono (unhide BD).size))
    clear fx fy hxs hys hX hY bA oA O9 AY SC E8 E9 EA
    go_wp2_with fail
    go_loopw [17, 16, 18] (fun i s _ wr => ∃ k : Nat, k ≤ X ∧ i = .int .i64 k ∧ s = .bool ((xs.take k).any (ys.contains ·)) ∧ Below wA.heap.size wA wr) (fun i _ _ _ => X - (intOf i).toNat)
    case atStart => exact ⟨0, Nat.zero_le _, rfl, by simp, Below.refl _ _⟩
    case round =>
      obtain ⟨k, hk, rfl, rfl, hbel⟩ := hrel
      have BEL := hide hbel
      clear hbel
      by_cases hlt : k < X
      · have q : (k : Int) < X := by omega
        have AT := hide (any_take (xs := xs) (ys := ys) (j := k) (by rw [unhide HX]; exact hlt))
        obtain ⟨a1, ha1, h1⟩ := (unhide IX) _ (unhide BEL) k (by rw [unhide HX]; exact hlt)
        subst ha1
        obtain ⟨x, hxk⟩ : ∃ x, xs.getD k 0 = x := ⟨_, rfl⟩
        rw [hxk] at h1 AT
        obtain ⟨r0, hr0⟩ : ∃ r0, (xs.take k).any (ys.contains ·) = r0 := ⟨_, rfl⟩
        rw [hr0] at AT
        rw [hr0]
        have H1 := hide h1
        clear h1 hxk hr0
        obtain ⟨wk, hwk⟩ : ∃ wk, wk = wr := ⟨_, rfl⟩
        subst hwk
        go_wp2_with fail
        go_loopw [18, 16] (fun i s wq => ∃ j : Nat, j ≤ Yn ∧ i = .int .i64 j ∧ s = .bool (r0 || (ys.take j).contains x) ∧ Below wk.heap.size wk wq) (fun i _ _ => Yn - (intOf i).toNat)
        case atStart => exact ⟨0, Nat.zero_le _, rfl, by simp, Below.refl _ _⟩
        case round =>
          obtain ⟨j, hj, rfl, rfl, bel⟩ := hrel
          have BQ0 := hide bel
          have BQ := hide ((unhide BEL).trans (bel.mono (unhide BEL).size))
          clear bel
          by_cases hlt2 : j < Yn
          · have q2 : (j : Int) < Yn := by omega
            have CT := hide (contains_take (ys := ys) (j := j) (by rw [unhide HY]; exact hlt2) x)
            obtain ⟨a2, ha2, h2⟩ := (unhide IY) _ (unhide BQ) j (by rw [unhide HY]; exact hlt2)
            subst ha2
            obtain ⟨y, hyk⟩ : ∃ y, ys.getD j 0 = y := ⟨_, rfl⟩
            rw [hyk] at h2 CT
            have h1 : wr.cell? (a1.add k) = some (.int .i64 x) := by rw [(unhide BQ0).cell (blk_lt (unhide H1))]; exact unhide H1
            have CT2 : Hid ((r0 || (ys.take (j + 1)).contains x) = ((r0 || (ys.take j).contains x) || (x == y))) := by show _ = _; rw [unhide CT, Bool.or_assoc]
            obtain ⟨rr, hrr⟩ : ∃ rr, (r0 || (ys.take j).contains x) = rr := ⟨_, rfl⟩
            rw [hrr] at CT2
            rw [hrr]
            clear hrr hyk CT
            cases rr
            · go_wp2_with fail
              go_quiet (fail)
              go_wp2
              go_roundw
              case rel => exact ⟨j + 1, by omega, by go_num, by rw [unhide CT2]; simp, (unhide BQ0).trans ((drewN_below _ _).mono (unhide BQ0).size)⟩
              case measure => simp [intOf]; omega
            · go_wp2_with fail
              go_quiet (fail)
              go_wp2
              go_roundw
              case rel => exact ⟨j + 1, by omega, by go_num, by rw [unhide CT2]; simp, (unhide BQ0).trans ((drewN_below _ _).mono (unhide BQ0).size)⟩
              case measure => simp [intOf]; omega
          · obtain rfl : j = Yn := by omega
            have et : ys.take j = ys := by rw [← unhide HY, List.take_length]
            rw [et]
            clear et
            go_wp2
            go_roundw
            case rel => exact ⟨k + 1, by omega, by go_num, by rw [unhide AT], unhide BQ⟩
            case measure => simp [intOf]; omega
      · obtain rfl : k = X := by omega
        have et : xs.take k = xs := by rw [← unhide HX, List.take_length]
        rw [et]
        clear et
        obtain ⟨cm, hcm⟩ : ∃ cm, xs.any (ys.contains ·) = cm := ⟨_, rfl⟩
        rw [hcm]
        cases cm
        · have M := meet_all (ts := ts) (unhide U0).2.2 (no_common hcm)
          have SX := hide (fun (Y : World) (h : Below wA.heap.size wA Y) => And.intro (two_cells (unhide SD Y h).1.1.1) (And.intro (two_cells (unhide SD Y h).1.2.1) (two_cells (unhide SD Y h).2.1)))
          have Qcx := hide (fun (Y : World) (h : Below wA.heap.size wA Y) => quorum_any none an 0 nn 0 cn [] cs rfl (unhide ENN) ax k cx xs (unhide HX) (by decide) (by omega) (by omega) Y (IntsR.nil _ _) (unhide SD Y h).1.1.2.1 (unhide IX Y h))
          have Qcy := hide (fun (Y : World) (h : Below wA.heap.size wA Y) => quorum_any none an 0 nn 0 cn [] cs rfl (unhide ENN) ay Yn cy ys (unhide HY) (by decide) (by omega) (by omega) Y (IntsR.nil _ _) (unhide SD Y h).1.1.2.1 (unhide IY Y h))
          have Qjx := hide (fun (Y : World) (h : Below wA.heap.size wA Y) => quorum_any jo jn nn n2 p1 p2 cs ts (unhide ENN) (unhide HE2) ax k cx xs (unhide HX) (by omega) (by omega) (by omega) Y (unhide SD Y h).1.2.2.1.1 (unhide SD Y h).1.2.2.2.1 (unhide IX Y h))
          have Qjy := hide (fun (Y : World) (h : Below wA.heap.size wA Y) => quorum_any jo jn nn n2 p1 p2 cs ts (unhide ENN) (unhide HE2) ay Yn cy ys (unhide HY) (by omega) (by omega) (by omega) Y (unhide SD Y h).1.2.2.1.1 (unhide SD Y h).1.2.2.2.1 (unhide IY Y h))
          have Qnx := hide (fun (Y : World) (h : Below wA.heap.size wA Y) => quorum_any go gn 0 n2 p5 p6 [] ts rfl (unhide HE2) ax k cx xs (unhide HX) (by decide) (by omega) (by omega) Y (IntsR.nil _ _) (unhide SD Y h).2.2.1 (unhide IX Y h))
          have Qny := hide (fun (Y : World) (h : Below wA.heap.size wA Y) => quorum_any go gn 0 n2 p5 p6 [] ts rfl (unhide HE2) ay Yn cy ys (unhide HY) (by decide) (by omega) (by omega) Y (IntsR.nil _ _) (unhide SD Y h).2.2.1 (unhide IY Y h))
          obtain ⟨gx, hgx⟩ : ∃ b, quorumOf [] cs xs = b := ⟨_, rfl⟩
          obtain ⟨gy, hgy⟩ : ∃ b, quorumOf [] cs ys = b := ⟨_, rfl⟩
          obtain ⟨jx, hjx⟩ : ∃ b, quorumOf cs ts xs = b := ⟨_, rfl⟩
          obtain ⟨jy, hjy⟩ : ∃ b, quorumOf cs ts ys = b := ⟨_, rfl⟩
          obtain ⟨nx, hnx⟩ : ∃ b, quorumOf [] ts xs = b := ⟨_, rfl⟩
          obtain ⟨ny, hny⟩ : ∃ b, quorumOf [] ts ys = b := ⟨_, rfl⟩
          rw [hgx, hgy, hjx, hjy, hnx, hny] at M
          rw [hgx] at Qcx
          rw [hgy] at Qcy
          rw [hjx] at Qjx
          rw [hjy] at Qjy
          rw [hnx] at Qnx
          rw [hny] at Qny
          have HM := hide M
          obtain ⟨⟨c0, c1⟩, ⟨d0, d1⟩, f0, f1⟩ := unhide SX _ (unhide BEL)
          have EZ := BEL
          clear M hgx hgy hjx hjy hnx hny hcm
          cases gx <;> cases jx <;> cases nx
          all_goals
            try (obtain ⟨rfl, rfl⟩ := (unhide HM).1 rfl)
            try (obtain ⟨rfl, rfl⟩ := (unhide HM).2.1 rfl)
            try (obtain ⟨_, rfl⟩ := (unhide HM).2.1 rfl)
            try (obtain rfl := (unhide HM).2.2 rfl)
            clear HM
          all_goals go_wp2_with (first
            | (go_at_call_of 18 (Value.agg #[.slice none 0 0, .slice an nn cn])
               go_at_call_of 18 (Value.slice ax k cx)
               refine (unhide Qcx _ (unhide EZ)).mono ?_
               rintro e wz ⟨rfl, bz⟩
               have E0 := hide ((unhide EZ).trans (bz.mono (unhide EZ).size))
               clear bz EZ
               have EZ := E0
               clear E0
               obtain ⟨⟨c0, c1⟩, ⟨d0, d1⟩, f0, f1⟩ := unhide SX _ (unhide EZ))
            | (go_at_call_of 18 (Value.agg #[.slice none 0 0, .slice an nn cn])
               go_at_call_of 18 (Value.slice ay Yn cy)
               refine (unhide Qcy _ (unhide EZ)).mono ?_
               rintro e wz ⟨rfl, bz⟩
               have E0 := hide ((unhide EZ).trans (bz.mono (unhide EZ).size))
               clear bz EZ
               have EZ := E0
               clear E0
               obtain ⟨⟨c0, c1⟩, ⟨d0, d1⟩, f0, f1⟩ := unhide SX _ (unhide EZ))
            | (go_at_call_of 18 (Value.agg #[.slice jo nn p1, .slice jn n2 p2])
               go_at_call_of 18 (Value.slice ax k cx)
               refine (unhide Qjx _ (unhide EZ)).mono ?_
               rintro e wz ⟨rfl, bz⟩
               have E0 := hide ((unhide EZ).trans (bz.mono (unhide EZ).size))
               clear bz EZ
               have EZ := E0
               clear E0
               obtain ⟨⟨c0, c1⟩, ⟨d0, d1⟩, f0, f1⟩ := unhide SX _ (unhide EZ))
            | (go_at_call_of 18 (Value.agg #[.slice jo nn p1, .slice jn n2 p2])
               go_at_call_of 18 (Value.slice ay Yn cy)
               refine (unhide Qjy _ (unhide EZ)).mono ?_
               rintro e wz ⟨rfl, bz⟩
               have E0 := hide ((unhide EZ).trans (bz.mono (unhide EZ).size))
               clear bz EZ
               have EZ := E0
               clear E0
               obtain ⟨⟨c0, c1⟩, ⟨d0, d1⟩, f0, f1⟩ := unhide SX _ (unhide EZ))
            | (go_at_call_of 18 (Value.agg #[.slice go 0 p5, .slice gn n2 p6])
               go_at_call_of 18 (Value.slice ax k cx)
               refine (unhide Qnx _ (unhide EZ)).mono ?_
               rintro e wz ⟨rfl, bz⟩
               have E0 := hide ((unhide EZ).trans (bz.mono (unhide EZ).size))
               clear bz EZ
               have EZ := E0
               clear E0
               obtain ⟨⟨c0, c1⟩, ⟨d0, d1⟩, f0, f1⟩ := unhide SX _ (unhide EZ))
            | (go_at_call_of 18 (Value.agg #[.slice go 0 p5, .slice gn n2 p6])
               go_at_call_of 18 (Value.slice ay Yn cy)
               refine (unhide Qny _ (unhide EZ)).mono ?_
               rintro e wz ⟨rfl, bz⟩
               have E0 := hide ((unhide EZ).trans (bz.mono (unhide EZ).size))
               clear bz EZ
               have EZ := E0
               clear E0
               obtain ⟨⟨c0, c1⟩, ⟨d0, d1⟩, f0, f1⟩ := unhide SX _ (unhide EZ)))
          all_goals go_ret
          all_goals exact ⟨rfl, (unhide BE).trans ((unhide EZ).mono (unhide BE).size)⟩
        · go_wp2
          go_ret
          exact ⟨rfl, (unhide BE).trans ((unhide BEL).mono (unhide BE).size)⟩
end Go.Proofs.Ythemdkfmlkaifaa

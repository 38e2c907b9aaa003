/- HistRoom: the walk. -/
import Derived.Test.YtmjiccpombkdlabHGrown
import Derived.Test.YtmjiccpombkdlabHFrom
namespace Go.Proofs.Ytmjiccpombkdlab
open Go.RowKit Go.Maps

theorem es_made {w : World} {base g n : Nat} (h : w.ownsRow base 32 6 (.slice (some ⟨g, 0, none⟩) n n) n (madeCells (Value.agg #[.int .i64 0, .int .i64 0, .int .i64 0, .string ⟨#[]⟩, .slice none 0 0, .int .i64 0]).cells (n * 6)).toList) :
    EsR (fun k => k = g) w (some ⟨g, 0, none⟩) (List.replicate n zeroEn) := fun i e hi => by
  have hin : i < n := by have := (List.getElem?_eq_some_iff.1 hi).1; simpa using this
  rw [List.getElem?_replicate, if_pos hin] at hi
  cases hi
  refine ⟨g, 0, none, 0, rfl, rfl, fun j u hj => ?_, InF.nil _ _ _, by decide⟩
  have hj6 : j < 6 := (List.getElem?_eq_some_iff.1 hj).1
  have := World.ownsRow.cells h (g := g) rfl (i * 6 + j) u (by
    rw [madeCells, Array.toList_map, List.getElem?_map, Array.toList_range, List.getElem?_range (by omega)]
    show some ((Value.agg #[.int .i64 0, .int .i64 0, .int .i64 0, .string ⟨#[]⟩, .slice none 0 0, .int .i64 0]).cells[(i * 6 + j) % 6]!) = some u
    rw [show (i * 6 + j) % 6 = j by omega, ← hj]
    have h6 : j = 0 ∨ j = 1 ∨ j = 2 ∨ j = 3 ∨ j = 4 ∨ j = 5 := by omega
    rcases h6 with rfl | rfl | rfl | rfl | rfl | rfl <;> rfl)
  rw [Addr.add_lit] at this
  rw [Nat.add_assoc]; exact this
theorem climbs_rep {t : Int} (h : t ≤ 9) : ∀ n : Nat, climbsOf t (List.replicate n 9) = true := by
  intro n
  induction n generalizing t with
  | zero => rfl
  | succ n ih => rw [List.replicate_succ, climbsOf, ih (by decide), decide_eq_true (by omega)]; rfl

set_option maxHeartbeats 1000000 in
theorem ones_any (n : Nat) (hn : n ≤ 1000) (w : World) :
    Calls Try.prog 19 #[.int .i64 (n : Int)] w fun x w' => ∃ v, x = .returned v ∧ Ir w.heap.size w' v (List.replicate n 9) ∧ Below w.heap.size w w' := by
  go_enter Try.func19, Try.ntmps19
  go_wp2_with fail
  go_loopw [4, 3] (fun iv lv wr => ∃ k : Nat, k ≤ n ∧ iv = .int .i64 (k : Int) ∧ Ir w.heap.size wr lv (List.replicate k 9) ∧ Below w.heap.size w wr) (fun iv _ _ => n - (intOf iv).toNat)
  case atStart => exact ⟨0, Nat.zero_le _, rfl, Ir.nil _ _, Below.refl _ _⟩
  case round =>
    obtain ⟨k, hk, rfl, hI, hb⟩ := hrel
    have HI := hide hI
    have B := hide hb
    clear hI hb
    by_cases hlt : k < n
    · have hq : (k : Int) < (n : Int) := by omega
      obtain ⟨V, hV⟩ : ∃ V, wr.alloc (.cells #[.int .i64 9] 3) = V := ⟨_, rfl⟩
      have bV : Below wr.heap.size wr V := by rw [← hV]; exact (Below.refl _ wr).alloc (Nat.le_refl _) _
      have hVc : V.cell? ⟨wr.heap.size, 0, none⟩ = some (.int .i64 9) := by rw [← hV]; exact (cell_of_block (box_at wr _)).trans rfl
      have IV := hide (Ir.below (unhide HI) bV)
      have BV := hide (below_far (unhide B) bV)
      have sV := (unhide BV).size
      have HV := hide hV
      have VC := hide hVc
      have hl : (List.replicate k (9 : Int)).length ≤ 1000000 := by rw [List.length_replicate]; omega
      have HL := hide hl
      clear hV bV hVc hl
      go_wp2_with (rw [unhide HV]; refine wpList_appAt rfl (.tmp 10) (.tmp 11) rfl w.heap.size u3 _ rfl (unhide IV) wr.heap.size 9 rfl (unhide VC) (unhide HL) sV ?_)
      intro v2 w2 hI2 hg2 _
      have b2 : Below w.heap.size w w2 := (unhide BV).trans ((Below.refl _ V).grown hg2 sV (fun j hj => ((unhide IV).lt j hj).1))
      rw [show List.replicate k (9 : Int) ++ [9] = List.replicate (k + 1) 9 from (List.replicate_succ' ..).symm] at hI2
      have I2 := hide hI2
      have B2 := hide b2
      clear hI2 b2 hg2
      go_wp2
      go_roundw
      case rel => exact ⟨k + 1, by omega, by go_num, unhide I2, unhide B2⟩
      case measure => simp [intOf]; omega
    · obtain rfl : k = n := by omega
      go_wp2
      go_ret
      exact ⟨_, rfl, unhide HI, unhide B⟩

theorem Hs.step {D : Nat → Prop} {base : Nat} {w w' : World} {p : Nat} {b : Int} {rs : List Rw} (hd : ∀ k, D k → base ≤ k) (hb : base ≤ w.heap.size) (h : Hs (News D w w') w' p b rs) : ∃ D', (∀ k, D' k → base ≤ k) ∧ Hs D' w' p b rs :=
  ⟨_, fun k hk => hk.elim (hd k) (fun y => Nat.le_trans hb y.1), h⟩
theorem app_le {b : Int} {rs : List Rw} {t : Int} {es : List En} {c : Int} (h : ∀ r ∈ rs, r.1 ≤ c) (ht : t ≤ c) : ∀ r ∈ appRows b rs t es, r.1 ≤ c := fun r hr => by
  unfold appRows at hr
  split at hr
  · rcases List.mem_append.1 hr with q | q
    · exact h r q
    · obtain ⟨e, _, rfl⟩ := List.mem_map.1 q; exact ht
  · exact h r hr
theorem termOf_le {b : Int} {rs : List Rw} {c : Int} (h : ∀ r ∈ rs, r.1 ≤ c) (hc : 0 ≤ c) (i : Int) : termOf b rs i ≤ c := by
  rcases termOf_mem b rs i with e | ⟨r, hr, e⟩
  · rw [e]; exact hc
  · rw [e]; exact h r hr

set_option maxRecDepth 20000 in
set_option maxHeartbeats 4000000 in
theorem room_walk (x0 x1 x2 : Int) (w : World) :
    Calls Try.prog 4 #[.int .i64 x0, .int .i64 x1, .int .i64 x2] w fun e w' => e = .returned (.bool true) ∧ Below w.heap.size w w' := by
  obtain ⟨i0, hi, hz0, hz1, hz2⟩ := info_parts Try.infoEn
  have KN := hide (hknown_any w)
  have q0 := Int.emod_nonneg x0 (show (64 : Int) ≠ 0 by decide)
  have q1 := Int.emod_lt_of_pos x0 (show (0 : Int) < 64 by decide)
  have W0 := hide (fun Y => within_any x0 64 Y (by decide) (by decide))
  obtain ⟨b, hb⟩ : ∃ b : Nat, x0 % 64 = (b : Int) := ⟨(x0 % 64).toNat, by omega⟩
  rw [hb] at W0 q0 q1
  have hb64 : b < 64 := by omega
  have q2 := Int.emod_nonneg x1 (show 64 - (b : Int) + 1 ≠ 0 by omega)
  have q3 := Int.emod_lt_of_pos x1 (show (0 : Int) < 64 - (b : Int) + 1 by omega)
  have W1 := hide (fun Y => within_any x1 (64 - (b : Int) + 1) Y (by omega) (by omega))
  obtain ⟨n, hn⟩ : ∃ n : Nat, x1 % (64 - (b : Int) + 1) = (n : Int) := ⟨(x1 % (64 - (b : Int) + 1)).toNat, by omega⟩
  rw [hn] at W1 q2 q3
  have hbn : b + n ≤ 64 := by omega
  have q4 := Int.emod_nonneg x2 (show (12 : Int) ≠ 0 by decide)
  have q5 := Int.emod_lt_of_pos x2 (show (0 : Int) < 12 by decide)
  have W2 := hide (fun Y => within_any x2 12 Y (by decide) (by decide))
  obtain ⟨m, hm⟩ : ∃ m : Nat, x2 % 12 = (m : Int) := ⟨(x2 % 12).toNat, by omega⟩
  rw [hm] at W2 q4 q5
  have hm12 : m < 12 := by omega
  clear hb hn hm q0 q1 q2 q3 q4 q5
  go_enter Try.func4, Try.ntmps4
  go_wp2_with fail
  refine (unhide KN).mono ?_
  rintro e w1 ⟨rfl, b1⟩
  have B1 := hide b1
  have V0 := hide (unhide W0 w1)
  clear b1 KN W0
  go_wp2_with fail
  refine (unhide V0).mono ?_
  rintro e w2 ⟨rfl, hw⟩
  replace hw := hw.symm
  subst hw
  have NE := hide (hnew_any (b : Int) w1)
  clear V0
  go_wp2_with fail
  refine (unhide NE).mono ?_
  rintro e w3 ⟨rfl, h3, b3⟩
  have H3 := hide h3
  have B3 := hide (below_far (unhide B1) b3)
  have V1 := hide (unhide W1 w3)
  have p1 : Hid (w.heap.size ≤ w1.heap.size) := (unhide B1).size
  clear h3 b3 NE W1
  go_wp2_with fail
  refine (unhide V1).mono ?_
  rintro e w4 ⟨rfl, hw⟩
  replace hw := hw.symm
  subst hw
  have V2 := hide (unhide W2 w3)
  clear V1 W2
  go_wp2_with fail
  refine (unhide V2).mono ?_
  rintro e w5 ⟨rfl, hw⟩
  replace hw := hw.symm
  subst hw
  clear V2
  go_wp2_with (at_make; refine wpList_make_full _ rfl _ _ 27 rfl w3.heap.size 32 i0 _ 6 Try.underlying27 hi hz0 hz1 .i64 .i64 _ _ n rfl rfl rfl rfl (by rw [hz2]; omega) (by unfold maxLen; omega) (Nat.le_refl _) ?_)
  intro w6 hown6 hg6
  have b6 : Below w3.heap.size w3 w6 := (Below.refl _ _).grown hg6 (Nat.le_refl _) (fun k hk => by cases hk)
  have p3 : w1.heap.size < w3.heap.size := (unhide H3).lt _ rfl
  have hno1 : appNo (b : Int) [] 1 n = 0 := by
    unfold appNo
    rw [if_pos ⟨by decide, by have := @termOf_le (b : Int) [] 1 (fun r hr => by simp at hr) (by decide) ((b : Int) + (([] : List Rw).length : Int)); exact this⟩, if_pos (by simp; omega)]
  have AP := hide (append_any ((unhide H3).below b6) ⟨by omega, by omega, by decide⟩ 1 (some ⟨w3.heap.size, 0, none⟩) n n (List.replicate n zeroEn) (by simp) (by omega) (es_made hown6) (fun k hk x => by omega) (fun k hk => by rw [hk]; exact (hown6.lt _ rfl).2))
  rw [show appN (b : Int) [] 1 n = (b : Int) + (n : Int) by unfold appN; rw [if_pos hno1]; simp, hno1] at AP
  obtain ⟨R1, hR1⟩ : ∃ R1, appRows (b : Int) [] 1 (List.replicate n zeroEn) = R1 := ⟨_, rfl⟩
  have hl1 : R1.length = n := by rw [← hR1]; unfold appRows; rw [if_pos (by rw [List.length_replicate]; exact hno1)]; simp
  have ht1 : ∀ r ∈ R1, r.1 ≤ 1 := by rw [← hR1]; exact app_le (fun r hr => by simp at hr) (by decide)
  rw [hR1] at AP
  have B6 := hide (below_far (unhide B3) b6)
  have P3 := hide p3
  clear hown6 hg6 b6 p3 hno1 H3 hR1
  go_wp2_with fail
  refine (unhide AP).mono ?_
  rintro e w7 ⟨rfl, h7, k7⟩
  have b7 : Below w.heap.size w w7 := (unhide B6).trans (k7.below (fun k hk => by rw [hk]; exact unhide p1) (unhide B6).size)
  obtain ⟨D7, hD7, h7'⟩ := Hs.step (base := w.heap.size) (fun k hk => by rw [hk]; exact unhide p1) (unhide B6).size h7
  have H7 := hide h7'
  have B7 := hide b7
  have HD7 := hide hD7
  clear h7 k7 AP b7 h7' hD7
  go_wp2_with (at_make; refine wpList_make_full _ rfl _ _ 27 rfl w7.heap.size 32 i0 _ 6 Try.underlying27 hi hz0 hz1 .i64 .i64 _ _ m rfl rfl rfl rfl (by rw [hz2]; omega) (by unfold maxLen; omega) (Nat.le_refl _) ?_)
  intro w8 hown8 hg8
  have b8 : Below w7.heap.size w7 w8 := (Below.refl _ _).grown hg8 (Nat.le_refl _) (fun k hk => by cases hk)
  have AP := hide (append_any ((unhide H7).below b8) ⟨by omega, by omega, by rw [hl1]; omega⟩ 2 (some ⟨w7.heap.size, 0, none⟩) m m (List.replicate m zeroEn) (by simp) (by omega) (es_made hown8) (fun k hk x => by have := (unhide H7).lt k x; omega) (fun k hk => by rw [hk]; exact (hown8.lt _ rfl).2))
  have hno2 : appNo (b : Int) R1 2 m = if (b : Int) + (n : Int) + (m : Int) ≤ 64 then 0 else 14 := by
    unfold appNo
    rw [if_pos ⟨by decide, by have := @termOf_le (b : Int) R1 1 ht1 (by decide) ((b : Int) + (R1.length : Int)); omega⟩, hl1]
  have hN2 : appN (b : Int) R1 2 m = if (b : Int) + (n : Int) + (m : Int) ≤ 64 then (b : Int) + (n : Int) + (m : Int) else 0 := by
    unfold appN
    rw [hno2, hl1]
    split <;> simp
  obtain ⟨R2, hR2⟩ : ∃ R2, appRows (b : Int) R1 2 (List.replicate m zeroEn) = R2 := ⟨_, rfl⟩
  have hl2 : R2.length = if (b : Int) + (n : Int) + (m : Int) ≤ 64 then n + m else n := by
    rw [← hR2]; unfold appRows; rw [List.length_replicate, hno2]
    split
    · rw [if_pos rfl, List.length_append, List.length_map, List.length_replicate, hl1]
    · rw [if_neg (by decide), hl1]
  have ht2 : ∀ r ∈ R2, r.1 ≤ 9 := by rw [← hR2]; exact app_le (fun r hr => by have := ht1 r hr; omega) (by decide)
  rw [hR2, hno2, hN2] at AP
  have B8 := hide (below_far (unhide B7) b8)
  have HT2 := hide ht2
  have wr1 : IntKind.i64.wrap ((b : Int) + (n : Int)) = (b : Int) + (n : Int) := IntWalk.i64_in _ (by omega)
  have wr2 : IntKind.i64.wrap ((b : Int) + (n : Int) + (m : Int)) = (b : Int) + (n : Int) + (m : Int) := IntWalk.i64_in _ (by omega)
  clear hown8 hg8 b8 hno2 hN2 hR2 ht1 ht2 hl1 H7
  go_wp2_with fail
  refine (unhide AP).mono ?_
  rintro e w9 ⟨rfl, h9, k9⟩
  have b9 : Below w.heap.size w w9 := (unhide B8).trans (k9.below (unhide HD7) (unhide B8).size)
  obtain ⟨D9, hD9, h9'⟩ := Hs.step (base := w.heap.size) (unhide HD7) (unhide B8).size h9
  have hL9 : R2.length ≤ 64 - b := by rw [hl2]; split <;> omega
  have f9 : Fit (b : Int) R2 := ⟨by omega, by omega, by omega⟩
  have LA := hide (fun Y (h : Below w9.heap.size w9 Y) => last_any (h9'.below h) f9)
  have TE := hide (fun Y (h : Below w9.heap.size w9 Y) => term_any (h9'.below h) f9 ((b : Int) + (R2.length : Int)))
  have HH9 := hide (fun Y (h : Below w9.heap.size w9 Y) => h9'.below h)
  have F9 := hide f9
  have HD9 := hide hD9
  have B9 := hide b9
  have A0 := hide (Below.refl w9.heap.size w9)
  clear h9 k9 AP b9 h9' hD9 f9
  obtain ⟨L, hL⟩ : ∃ L, (b : Int) + (R2.length : Int) = L := ⟨_, rfl⟩
  obtain ⟨T, hT⟩ : ∃ T, termOf (b : Int) R2 ((b : Int) + (R2.length : Int)) = T := ⟨_, rfl⟩
  rw [hT] at TE
  rw [hL] at LA TE
  have hT9 : T ≤ 9 := by rw [← hT]; exact termOf_le (unhide HT2) (by decide) _
  by_cases hfit : (b : Int) + (n : Int) + (m : Int) ≤ 64
  · rw [if_pos hfit, if_pos hfit]
    rw [if_pos hfit] at hl2
    have d1 : decide ((b : Int) + (n : Int) + (m : Int) ≤ 64) = true := decide_eq_true hfit
    obtain ⟨c, hc⟩ : ∃ c : Nat, 64 - L + 1 = (c : Int) := ⟨(64 - L + 1).toNat, by omega⟩
    have hc1 : c ≤ 65 := by omega
    have wr3 : IntKind.i64.wrap (64 - L) = 64 - L := IntWalk.i64_in _ (by omega)
    have wr4 : IntKind.i64.wrap (64 - L + 1) = (c : Int) := by rw [hc]; exact IntWalk.i64_in _ (by omega)
    go_wp2_with fail
    refine (unhide LA _ (unhide A0)).mono ?_
    rintro e y0 ⟨rfl, c0⟩
    replace A0 := hide (below_far (unhide A0) c0)
    clear c0
    go_wp2_with fail
    refine (unhide LA _ (unhide A0)).mono ?_
    rintro e y1 ⟨rfl, c1⟩
    replace A0 := hide (below_far (unhide A0) c1)
    clear c1
    go_wp2_with fail
    refine (unhide TE _ (unhide A0)).mono ?_
    rintro e y2 ⟨rfl, c2⟩
    replace A0 := hide (below_far (unhide A0) c2)
    clear c2
    go_wp2_with fail
    refine (unhide LA _ (unhide A0)).mono ?_
    rintro e y3 ⟨rfl, c3⟩
    replace A0 := hide (below_far (unhide A0) c3)
    clear c3
    have ON := hide (ones_any c (by omega) y3)
    go_wp2_with fail
    refine (unhide ON).mono ?_
    rintro e y4 ⟨v4, rfl, o4, c4⟩
    have A3S := hide (unhide A0).size
    obtain ⟨ao4, cp4, rfl, -⟩ := o4.slice
    replace A0 := hide (below_far (unhide A0) c4)
    have Y34 : Hid (y3.heap.size ≤ y3.heap.size) := Nat.le_refl _
    have O4 := hide o4
    have S4 := hide (unhide A0).size
    clear c4 o4 ON
    have HA := hide (fun Y (h : Below y4.heap.size y4 Y) => Ir.below (unhide O4) h)
    have Q0 := hide (Below.refl y4.heap.size y4)
    go_wp2_with fail
    refine (unhide LA _ (unhide A0)).mono ?_
    rintro e y5 ⟨rfl, c5⟩
    replace A0 := hide (below_far (unhide A0) c5)
    replace Q0 := hide (below_far (unhide Q0) c5)
    clear c5
    go_wp2_with (at_make; refine wpList_make_full _ rfl _ _ 27 rfl y5.heap.size 32 i0 _ 6 Try.underlying27 hi hz0 hz1 .i64 .i64 _ _ c rfl rfl rfl rfl (by rw [hz2]; omega) (by unfold maxLen; omega) (Nat.le_refl _) ?_)
    intro y6 hown hg
    have by6 : Below y5.heap.size y5 y6 := (Below.refl _ _).grown hg (Nat.le_refl _) (fun k hk => by cases hk)
    have a6 := below_far (unhide A0) by6
    have q6 := below_far (unhide Q0) by6
    have i6 := unhide HA _ q6
    have f6 : InF (fun k => w9.heap.size ≤ k) y6 ao4 (List.replicate c 9) := i6.inF.mono (fun k hk => Nat.le_trans (Nat.le_trans (unhide A3S) (unhide Y34)) (i6.lt k hk).1)
    have e6 : EsR (fun k => w9.heap.size ≤ k) y6 (some ⟨y5.heap.size, 0, none⟩) (List.replicate c zeroEn) := (es_made hown).mono (fun k hk => by rw [hk]; exact (unhide A0).size)
    have PU := hide (put_any (unhide HH9 _ a6) (unhide F9) (by omega) L T ao4 (List.replicate c (9 : Int)).length cp4 (List.replicate c 9) rfl (by rw [List.length_replicate]; omega) f6 (some ⟨y5.heap.size, 0, none⟩) c c (List.replicate c zeroEn) (by simp) (by omega) e6 (fun k hk x => by have := (unhide HH9 w9 (Below.refl _ _)).lt k x; omega))
    have hno : putNo (b : Int) R2 L T (List.replicate c 9) c = 14 := by
      unfold putNo
      rw [if_pos (by simp), if_pos (climbs_rep hT9 c), if_neg (by omega), if_neg (by omega), if_neg (fun x => x.2 (by rw [← hT, hL])), if_neg (by omega)]
    rw [hno] at PU
    rw [List.length_replicate] at PU
    have A6 := hide a6
    clear hown hg by6 a6 q6 i6 f6 e6 hno
    go_wp2_with fail
    refine (unhide PU).mono ?_
    rintro e y7 ⟨rfl, h7, k7⟩
    have fin : Hid (Below w.heap.size w y7) := ((unhide B9).trans ((unhide A6).mono (unhide B9).size)).trans (k7.below (unhide HD9) (Nat.le_trans (unhide B9).size (unhide A6).size))
    clear h7 k7 PU
    go_wp2
    go_ret
    exact ⟨rfl, unhide fin⟩
  · rw [if_neg hfit, if_neg hfit]
    rw [if_neg hfit] at hl2
    have d1 : decide ((b : Int) + (n : Int) + (m : Int) ≤ 64) = false := decide_eq_false hfit
    have hLL : L = (b : Int) + (n : Int) := by omega
    go_wp2_with fail
    refine (unhide LA _ (unhide A0)).mono ?_
    rintro e z0 ⟨rfl, c0⟩
    replace A0 := hide (below_far (unhide A0) c0)
    clear c0
    rw [hLL]
    rw [hLL] at LA TE hL
    clear hLL
    obtain ⟨c, hc⟩ : ∃ c : Nat, 64 - ((b : Int) + (n : Int)) + 1 = (c : Int) := ⟨(64 - ((b : Int) + (n : Int)) + 1).toNat, by omega⟩
    have hc1 : c ≤ 65 := by omega
    have wr3 : IntKind.i64.wrap (64 - ((b : Int) + (n : Int))) = 64 - ((b : Int) + (n : Int)) := IntWalk.i64_in _ (by omega)
    have wr4 : IntKind.i64.wrap (64 - ((b : Int) + (n : Int)) + 1) = (c : Int) := by rw [hc]; exact IntWalk.i64_in _ (by omega)
    go_wp2_with fail
    refine (unhide LA _ (unhide A0)).mono ?_
    rintro e y0 ⟨rfl, c0⟩
    replace A0 := hide (below_far (unhide A0) c0)
    clear c0
    go_wp2_with fail
    refine (unhide LA _ (unhide A0)).mono ?_
    rintro e y1 ⟨rfl, c1⟩
    replace A0 := hide (below_far (unhide A0) c1)
    clear c1
    go_wp2_with fail
    refine (unhide TE _ (unhide A0)).mono ?_
    rintro e y2 ⟨rfl, c2⟩
    replace A0 := hide (below_far (unhide A0) c2)
    clear c2
    go_wp2_with fail
    refine (unhide LA _ (unhide A0)).mono ?_
    rintro e y3 ⟨rfl, c3⟩
    replace A0 := hide (below_far (unhide A0) c3)
    clear c3
    have ON := hide (ones_any c (by omega) y3)
    go_wp2_with fail
    refine (unhide ON).mono ?_
    rintro e y4 ⟨v4, rfl, o4, c4⟩
    have A3S := hide (unhide A0).size
    obtain ⟨ao4, cp4, rfl, -⟩ := o4.slice
    replace A0 := hide (below_far (unhide A0) c4)
    have Y34 : Hid (y3.heap.size ≤ y3.heap.size) := Nat.le_refl _
    have O4 := hide o4
    have S4 := hide (unhide A0).size
    clear c4 o4 ON
    have HA := hide (fun Y (h : Below y4.heap.size y4 Y) => Ir.below (unhide O4) h)
    have Q0 := hide (Below.refl y4.heap.size y4)
    go_wp2_with fail
    refine (unhide LA _ (unhide A0)).mono ?_
    rintro e y5 ⟨rfl, c5⟩
    replace A0 := hide (below_far (unhide A0) c5)
    replace Q0 := hide (below_far (unhide Q0) c5)
    clear c5
    go_wp2_with (at_make; refine wpList_make_full _ rfl _ _ 27 rfl y5.heap.size 32 i0 _ 6 Try.underlying27 hi hz0 hz1 .i64 .i64 _ _ c rfl rfl rfl rfl (by rw [hz2]; omega) (by unfold maxLen; omega) (Nat.le_refl _) ?_)
    intro y6 hown hg
    have by6 : Below y5.heap.size y5 y6 := (Below.refl _ _).grown hg (Nat.le_refl _) (fun k hk => by cases hk)
    have a6 := below_far (unhide A0) by6
    have q6 := below_far (unhide Q0) by6
    have i6 := unhide HA _ q6
    have f6 : InF (fun k => w9.heap.size ≤ k) y6 ao4 (List.replicate c 9) := i6.inF.mono (fun k hk => Nat.le_trans (Nat.le_trans (unhide A3S) (unhide Y34)) (i6.lt k hk).1)
    have e6 : EsR (fun k => w9.heap.size ≤ k) y6 (some ⟨y5.heap.size, 0, none⟩) (List.replicate c zeroEn) := (es_made hown).mono (fun k hk => by rw [hk]; exact (unhide A0).size)
    have PU := hide (put_any (unhide HH9 _ a6) (unhide F9) (by omega) ((b : Int) + (n : Int)) T ao4 (List.replicate c (9 : Int)).length cp4 (List.replicate c 9) rfl (by rw [List.length_replicate]; omega) f6 (some ⟨y5.heap.size, 0, none⟩) c c (List.replicate c zeroEn) (by simp) (by omega) e6 (fun k hk x => by have := (unhide HH9 w9 (Below.refl _ _)).lt k x; omega))
    have hno : putNo (b : Int) R2 ((b : Int) + (n : Int)) T (List.replicate c 9) c = 14 := by
      unfold putNo
      rw [if_pos (by simp), if_pos (climbs_rep hT9 c), if_neg (by omega), if_neg (by omega), if_neg (fun x => x.2 (by rw [← hT, hL])), if_neg (by omega)]
    rw [hno] at PU
    rw [List.length_replicate] at PU
    have A6 := hide a6
    clear hown hg by6 a6 q6 i6 f6 e6 hno
    go_wp2_with fail
    refine (unhide PU).mono ?_
    rintro e y7 ⟨rfl, h7, k7⟩
    have fin : Hid (Below w.heap.size w y7) := ((unhide B9).trans ((unhide A6).mono (unhide B9).size)).trans (k7.below (unhide HD9) (Nat.le_trans (unhide B9).size (unhide A6).size))
    clear h7 k7 PU
    go_wp2
    go_ret
    exact ⟨rfl, unhide fin⟩
end Go.Proofs.Ytmjiccpombkdlab

/- TallySplit: the walk. -/
import Derived.Test.YtjcidihcmbenhaaYNew
import Derived.Test.YtjcidihcmbenhaaYRow
namespace Go.Proofs.Ytjcidihcmbenhaa
open Go.RowKit Go.Maps

/-- what the first k of them said. -/
def spl (ps : List Int) (yb : Int → Bool) (k : Nat) (id : Int) : Option Int := if (ps.take k).contains id = true then some (if yb id = true then 1 else 2) else none
theorem spl_zero (ps : List Int) (yb : Int → Bool) : spl ps yb 0 = fun _ => none := by funext y; simp [spl]
theorem not_take {ps : List Int} {k : Nat} (hp : ps.Pairwise (· < ·)) (h : k < ps.length) : ¬ ps.getD k 0 ∈ ps.take k := by
  intro hm
  obtain ⟨j, hj, e⟩ := List.mem_iff_getElem.1 hm
  rw [List.length_take] at hj
  rw [List.getElem_take] at e
  have := (List.pairwise_iff_getElem.1 hp) j k (by omega) h (by omega)
  rw [List.getD_eq_getElem?_getD, List.getElem?_eq_getElem h] at e
  simp only [Option.getD_some] at e
  omega
theorem spl_takes {ps : List Int} {yb : Int → Bool} {k : Nat} (hp : ps.Pairwise (· < ·)) (h : k < ps.length) : takes [] ps (spl ps yb k) (ps.getD k 0) = true := by
  unfold takes inOf saidOf spl
  rw [if_neg (by rw [List.contains_iff_mem]; exact not_take hp h), Bool.and_eq_true, Bool.or_eq_true]
  exact ⟨Or.inr (by rw [List.contains_iff_mem]; exact mem_getD h), rfl⟩
theorem spl_voted {ps : List Int} {yb : Int → Bool} {k : Nat} (hp : ps.Pairwise (· < ·)) (h : k < ps.length) : voted [] ps (spl ps yb k) (ps.getD k 0) (yb (ps.getD k 0)) = spl ps yb (k + 1) := by
  rw [voted_yes (spl_takes hp h)]
  funext y
  unfold upd spl
  rw [take_succ ps 0 k h]
  by_cases e : y = ps.getD k 0
  · rw [if_pos e, if_pos (c := (ps.take k ++ [ps.getD k 0]).contains y = true) (by rw [List.contains_iff_mem]; simp [e]), e]
  · rw [if_neg e]
    have : (ps.take k ++ [ps.getD k 0]).contains y = (ps.take k).contains y := by
      rw [Bool.eq_iff_iff, List.contains_iff_mem, List.contains_iff_mem, List.mem_append, List.mem_singleton]
      exact ⟨fun h => h.elim id (fun e' => absurd e' e), Or.inl⟩
    rw [this]
theorem spl_said {ps : List Int} {yb : Int → Bool} {k : Nat} {id : Int} (h : id ∈ ps.take k) : saidOf (spl ps yb k) id = if yb id = true then 1 else 2 := by
  unfold saidOf spl; rw [if_pos (by rw [List.contains_iff_mem]; exact h)]; rfl
theorem spl_again {ps : List Int} {yb : Int → Bool} {k : Nat} (h : k < ps.length) : takes [] ps (spl ps yb (k + 1)) (ps.getD k 0) = false := by
  unfold takes
  rw [spl_said (by rw [take_succ ps 0 k h]; simp)]
  cases yb (ps.getD k 0) <;> simp
theorem spl_won {ps : List Int} {yb : Int → Bool} {n : Nat} (hn : ps.length = n) : wonOf [] ps (spl ps yb n) = decide (n < 2 * ps.countP yb) := by
  unfold wonOf quorumBy halfBy
  rw [List.countP_congr (q := yb) (fun z hz => ?_), hn]
  · simp
  · rw [spl_said (by rw [← hn, List.take_length]; exact hz)]
    cases yb z <;> simp
theorem spl_left {ps : List Int} {yb : Int → Bool} {n : Nat} (hn : ps.length = n) : leftOf [] ps (spl ps yb n) = decide (n < 2 * ps.countP yb) := by
  unfold leftOf quorumBy halfBy
  rw [List.countP_congr (q := yb) (fun z hz => ?_), hn]
  · simp
  · rw [spl_said (by rw [← hn, List.take_length]; exact hz)]
    cases yb z <;> simp
theorem count_yes {ps : List Int} {yb : Int → Bool} {k C : Nat} (h : k < ps.length) (hC : (ps.take k).countP yb = C) (hy : yb (ps.getD k 0) = true) : (ps.take (k + 1)).countP yb = C + 1 := by
  rw [take_succ ps 0 k h, List.countP_append, hC, List.countP_cons_of_pos hy]; rfl
theorem count_no {ps : List Int} {yb : Int → Bool} {k C : Nat} (h : k < ps.length) (hC : (ps.take k).countP yb = C) (hy : yb (ps.getD k 0) = false) : (ps.take (k + 1)).countP yb = C := by
  rw [take_succ ps 0 k h, List.countP_append, hC, List.countP_cons_of_neg (by rw [hy]; exact Bool.false_ne_true)]; rfl
theorem takes_none {ps : List Int} {f : Int → Option Int} (hu : Up ps) : takes [] ps f 9 = false := by
  unfold takes inOf
  have : ps.contains 9 = false := by
    rw [Bool.eq_false_iff]; intro e
    rw [List.contains_iff_mem] at e
    have := hu.2 9 e; omega
  rw [this]; rfl

set_option maxRecDepth 20000 in
set_option maxHeartbeats 8000000 in
theorem split_walk (bits yes : Int) (w : World) :
    Calls Try.prog 6 #[.int .i64 bits, .int .i64 yes] w fun e w' => e = .returned (.bool true) ∧ Below w.heap.size w w' := by
  have KN := hide (known_any w)
  go_enter Try.func6, Try.ntmps6
  go_wp2_with fail
  refine (unhide KN).mono ?_
  rintro e w1 ⟨rfl, b1⟩
  have B1 := hide b1
  have GO := hide (plain_any bits w1)
  clear b1 KN
  go_wp2_with fail
  refine (unhide GO).mono ?_
  rintro e w2 ⟨an, nn, cn, rfl, enn, -, fn, b2⟩
  obtain ⟨ps, hps⟩ : ∃ ps, plainOf (bitOf bits) = ps := ⟨_, rfl⟩
  have UN : Hid (Up ps ∧ ps.length ≤ 7) := by rw [← hps]; exact ⟨plain_Up _, plain_len _⟩
  rw [hps] at enn fn
  obtain ⟨A0, hA0, bA0, xA0, -⟩ := boxed w2 (.slice none 0 0) (.slice an nn cn)
  have b12 := (unhide B1).trans (b2.mono (unhide B1).size)
  have HA0 := hide hA0
  have BA0 := hide (b12.trans (bA0.mono b12.size))
  have S0 := hide (fun (Y : World) (h : Below A0.heap.size A0 Y) => And.intro (two_cells (Below.stay h xA0)) ((fn.below bA0).below h))
  have hnn7 : nn ≤ 7 := by rw [← enn]; exact (unhide UN).2
  have ENN := hide enn
  have NW := hide (new_any none an 0 nn 0 cn [] ps rfl enn (by omega) (by omega) A0 (IntsR.nil _ _) (fn.below bA0).1)
  have WM := hide (wf_M Up.nil (unhide UN).1)
  have HL7 : Hid (([] : List Int).length ≤ 1000 ∧ ps.length ≤ 1000) := by
    refine ⟨by simp, ?_⟩
    have := (unhide UN).2; omega
  clear hps enn fn b2 b12 hA0 bA0 xA0 GO B1
  have s00 := unhide S0 A0 (Below.refl _ _)
  obtain ⟨⟨c0, c1⟩, -⟩ := s00
  go_upto_region 4 with fail
  rw [unhide HA0]
  clear HA0
  go_wp2_with fail
  refine (unhide NW).mono ?_
  rintro e w3 ⟨p, b, rfl, v3, hb, -, b3⟩
  obtain ⟨B, hB⟩ : ∃ B, w3.heap.size = B := ⟨_, rfl⟩
  rw [hB] at v3
  obtain ⟨yb, hyb⟩ : ∃ yb : Int → Bool, (fun id : Int => bitOf yes id.toNat) = yb := ⟨_, rfl⟩
  have HYB : Hid (∀ m : Nat, yb (m : Int) = bitOf yes m) := fun m => by rw [← hyb]; simp
  have V3 : Hid (Vt B w3 p b [] ps (spl ps yb 0) (4 * 0)) := by rw [spl_zero]; exact v3
  have B3 := hide b3
  clear v3 b3 hyb NW hB c0 c1
  go_wp2_with fail
  go_loopw [8, 7, 9] (fun i s _ wr => ∃ (k C : Nat), k ≤ nn ∧ i = .int .i64 k ∧ s = .int .i64 C ∧ (ps.take k).countP yb = C ∧ C ≤ k ∧ Vt B wr p b [] ps (spl ps yb k) (4 * k) ∧ Below A0.heap.size A0 wr) (fun i _ _ _ => nn - (intOf i).toNat)
  case atStart => exact ⟨0, 0, Nat.zero_le _, rfl, rfl, by simp, Nat.le_refl _, unhide V3, unhide B3⟩
  case round =>
    obtain ⟨k, C, hk, rfl, rfl, hC, hCk, hv, hbel⟩ := hrel
    have HC := hide hC
    have HV := hide hv
    have BEL := hide hbel
    obtain ⟨⟨c0, c1⟩, fn⟩ := unhide S0 _ hbel
    clear hC hv hbel
    by_cases hlt : k < nn
    · obtain ⟨a1, ha1, h1⟩ := fn.1 k (by rw [unhide ENN]; exact hlt)
      subst ha1
      have q : (k : Int) < nn := by omega
      have hkl : k < ps.length := by rw [unhide ENN]; exact hlt
      have YES := hide (count_yes (yb := yb) hkl (unhide HC))
      have NO := hide (count_no (yb := yb) hkl (unhide HC))
      have TK := hide (spl_takes (yb := yb) (unhide UN).1.1 hkl)
      have VO := hide (spl_voted (yb := yb) (unhide UN).1.1 hkl)
      have AG := hide (spl_again (yb := yb) hkl)
      have hr := (unhide UN).1.2 _ (mem_getD hkl)
      obtain ⟨x, hx⟩ : ∃ x : Nat, ps.getD k 0 = (x : Int) := ⟨(ps.getD k 0).toNat, by omega⟩
      rw [hx] at h1 YES NO TK VO AG hr
      have HX := hide hx
      have hx9 : x < 9 := by omega
      have hxw : wf64 (x : Int) := wf_range (by omega)
      have hyx := unhide HYB x
      have sz := (unhide BEL).size
      clear hx hr fn hkl
      obtain ⟨y, hy⟩ : ∃ y, yb (x : Int) = y := ⟨_, rfl⟩
      rw [hy] at YES NO VO hyx
      have A1 := hide (add_any (base := A0.heap.size) (x : Int) y hxw wr (unhide HV) (unhide HL7).1 (unhide HL7).2 (by omega) hb sz)
      rw [unhide TK, unhide VO] at A1
      have A2 := hide (fun (Y : World) (h : Below A0.heap.size A0 Y) (hv : Vt B Y p b [] ps (spl ps yb (k + 1)) (4 * k + 2)) => add_any (base := A0.heap.size) (x : Int) (!y) hxw Y hv (unhide HL7).1 (unhide HL7).2 (by omega) hb h.size)
      rw [voted_no (unhide AG), unhide AG] at A2
      have hyx2 : (Go.bits BinOp.and IntKind.i64 (yes / 2 ^ x) 1 == 1) = y := hyx.symm
      clear hyx hy TK VO AG hxw
      cases y
      · have N1 := hide (unhide NO rfl)
        clear YES NO
        go_wp2_with fail
        refine (unhide A1).mono ?_
        rintro e w4 ⟨rfl, v4, k4⟩
        have E4 := hide ((unhide BEL).trans k4.1)
        have A3 := hide (unhide A2 w4 (unhide E4) v4)
        obtain ⟨⟨d0, d1⟩, gn⟩ := unhide S0 _ (unhide E4)
        obtain ⟨a2, ha2, g1⟩ := gn.1 k (by rw [unhide ENN]; exact hlt)
        cases ha2
        rw [unhide HX] at g1
        clear v4 k4 A1 A2 gn c0 c1 h1
        go_wp2_with fail
        refine (unhide A3).mono ?_
        rintro e w5 ⟨rfl, v5, k5⟩
        have V5 := hide v5
        have E5 := hide ((unhide E4).trans k5.1)
        clear v5 k5 A3
        go_wp2
        go_roundw
        case rel => exact ⟨k + 1, C, by omega, by go_num, rfl, unhide N1, by omega, (unhide V5).mono (Nat.le_refl _) (by omega), unhide E5⟩
        case measure => simp [intOf]; omega
      · have N1 := hide (unhide YES rfl)
        clear YES NO
        go_wp2_with fail
        refine (unhide A1).mono ?_
        rintro e w4 ⟨rfl, v4, k4⟩
        have E4 := hide ((unhide BEL).trans k4.1)
        have A3 := hide (unhide A2 w4 (unhide E4) v4)
        obtain ⟨⟨d0, d1⟩, gn⟩ := unhide S0 _ (unhide E4)
        obtain ⟨a2, ha2, g1⟩ := gn.1 k (by rw [unhide ENN]; exact hlt)
        cases ha2
        rw [unhide HX] at g1
        clear v4 k4 A1 A2 gn c0 c1 h1
        go_wp2_with fail
        refine (unhide A3).mono ?_
        rintro e w5 ⟨rfl, v5, k5⟩
        have V5 := hide v5
        have E5 := hide ((unhide E4).trans k5.1)
        clear v5 k5 A3
        go_wp2
        go_roundw
        case rel => exact ⟨k + 1, C + 1, by omega, by go_num, by go_num, unhide N1, by omega, (unhide V5).mono (Nat.le_refl _) (by omega), unhide E5⟩
        case measure => simp [intOf]; omega
    · obtain rfl : k = nn := by omega
      have et : ps.take k = ps := by rw [← unhide ENN, List.take_length]
      rw [et] at HC
      have WO := spl_won (yb := yb) (unhide ENN)
      have LE := spl_left (yb := yb) (unhide ENN)
      rw [unhide HC] at WO LE
      have TN := takes_none (f := spl ps yb k) (unhide UN).1
      have WON := hide (fun (Y : World) (hv : Vt B Y p b [] ps (spl ps yb k) (4 * k)) => won_any Y hv (unhide HL7).1 (unhide HL7).2 (unhide WM))
      have LOS := hide (fun (Y : World) (hv : Vt B Y p b [] ps (spl ps yb k) (4 * k)) => lost_any Y hv (unhide HL7).1 (unhide HL7).2 (unhide WM))
      have ADD := hide (fun (Y : World) (h : Below A0.heap.size A0 Y) (hv : Vt B Y p b [] ps (spl ps yb k) (4 * k)) => add_any (base := A0.heap.size) 9 true (wf_range (by omega)) Y hv (unhide HL7).1 (unhide HL7).2 (by omega) hb h.size)
      rw [WO] at WON
      rw [LE] at LOS
      rw [TN] at ADD
      have EZ := hide (unhide BEL).drew
      have VZ := hide ((unhide HV).below (Below.refl _ wr).drew)
      have SX := hide (fun (Y : World) (h : Below A0.heap.size A0 Y) => (unhide S0 Y h).1.2)
      have wrC : IntKind.i64.wrap (2 * (C : Int)) = 2 * (C : Int) := IntWalk.i64_in _ (by omega)
      clear et WO LE TN fn
      by_cases hq : k < 2 * C
      · have hd : decide (k < 2 * C) = true := decide_eq_true hq
        have h1 : ((k : Int) < 2 * (C : Int)) := by omega
        have h2 : ¬ (2 * (C : Int) ≤ (k : Int)) := by omega
        rw [hd] at WON LOS
        clear hd hq
        go_upto_region 14 with fail
        clear c0 c1
        first
        | (go_region_held_law (fun Y => Y.cell? ⟨w2.heap.size, 1, none⟩ = some (.slice an k cn))
            (first | exact unhide SX _ (unhide EZ))
            (first
              | (go_at_call 16
                 refine (unhide WON _ (unhide VZ)).mono ?_
                 rintro e wz ⟨rfl, bz⟩
                 have E0 := hide ((unhide EZ).trans (bz.mono (unhide EZ).size))
                 have V0 := hide ((unhide VZ).below bz)
                 clear EZ VZ bz
                 have EZ := E0
                 have VZ := V0
                 clear E0 V0)
              | (go_at_call 18
                 refine (unhide LOS _ (unhide VZ)).mono ?_
                 rintro e wz ⟨rfl, bz⟩
                 have E0 := hide ((unhide EZ).trans (bz.mono (unhide EZ).size))
                 have V0 := hide ((unhide VZ).below bz)
                 clear EZ VZ bz
                 have EZ := E0
                 have VZ := V0
                 clear E0 V0)
              | (go_at_call 14
                 refine (unhide ADD _ (unhide EZ) (unhide VZ)).mono ?_
                 rintro e wz ⟨rfl, vz, kz⟩
                 have E0 := hide ((unhide EZ).trans kz.1)
                 clear EZ VZ vz kz
                 have EZ := E0
                 clear E0)))
        | fail
        all_goals go_wp2
        all_goals go_ret
        all_goals exact ⟨by first | rfl | (simp; omega) | simp, (unhide BA0).trans ((unhide EZ).mono (unhide BA0).size)⟩
      · have hd : decide (k < 2 * C) = false := decide_eq_false hq
        have h1 : ¬ ((k : Int) < 2 * (C : Int)) := by omega
        have h2 : (2 * (C : Int) ≤ (k : Int)) := by omega
        rw [hd] at WON LOS
        clear hd hq
        go_upto_region 14 with fail
        clear c0 c1
        first
        | (go_region_held_law (fun Y => Y.cell? ⟨w2.heap.size, 1, none⟩ = some (.slice an k cn))
            (first | exact unhide SX _ (unhide EZ))
            (first
              | (go_at_call 16
                 refine (unhide WON _ (unhide VZ)).mono ?_
                 rintro e wz ⟨rfl, bz⟩
                 have E0 := hide ((unhide EZ).trans (bz.mono (unhide EZ).size))
                 have V0 := hide ((unhide VZ).below bz)
                 clear EZ VZ bz
                 have EZ := E0
                 have VZ := V0
                 clear E0 V0)
              | (go_at_call 18
                 refine (unhide LOS _ (unhide VZ)).mono ?_
                 rintro e wz ⟨rfl, bz⟩
                 have E0 := hide ((unhide EZ).trans (bz.mono (unhide EZ).size))
                 have V0 := hide ((unhide VZ).below bz)
                 clear EZ VZ bz
                 have EZ := E0
                 have VZ := V0
                 clear E0 V0)
              | (go_at_call 14
                 refine (unhide ADD _ (unhide EZ) (unhide VZ)).mono ?_
                 rintro e wz ⟨rfl, vz, kz⟩
                 have E0 := hide ((unhide EZ).trans kz.1)
                 clear EZ VZ vz kz
                 have EZ := E0
                 clear E0)))
        | fail
        all_goals go_wp2
        all_goals go_ret
        all_goals exact ⟨by first | rfl | (simp; omega) | simp, (unhide BA0).trans ((unhide EZ).mono (unhide BA0).size)⟩
end Go.Proofs.Ytjcidihcmbenhaa

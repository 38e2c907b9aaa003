/- ConfMore: the walk. -/
import Derived.Test.YthemdkfmlkaifaaKKnown
import Derived.Test.YthemdkfmlkaifaaKGood
import Derived.Deep.RegionHeldLaw
namespace Go.Proofs.Ythemdkfmlkaifaa
open Go.RowKit

theorem empty_ir (base : Nat) (w : World) (h : base ≤ w.heap.size) : Ir base (w.alloc (.cells #[] 3)) (.slice (some ⟨w.heap.size, 0, none⟩) 0 0) [] :=
  World.ownsRow_made w #[] 0 h (by decide) rfl
/-- all members are a quorum. -/
theorem quorum_members {os ns : List Int} (hn : ns ≠ []) : quorumOf os ns (ris (os ++ ns)) = true := by
  unfold quorumOf
  rw [Bool.and_eq_true, Bool.or_eq_true]
  refine ⟨half_all hn fun a ha => (mem_ris _ a).2 (List.mem_append_right _ ha), ?_⟩
  cases os with
  | nil => exact Or.inl rfl
  | cons o os => exact Or.inr (half_all (by simp) fun a ha => (mem_ris _ a).2 (List.mem_append_left _ ha))
theorem quorum_none (os ns : List Int) : quorumOf os ns [] = false := by unfold quorumOf; rw [half_nil]; rfl
/-- half of them are none. -/
theorem quorum_half {os ns : List Int} {h : Nat} (hp : ns.Pairwise (· < ·)) (hh : 2 * h ≤ ns.length) : quorumOf os ns (ns.take h) = false := by
  unfold quorumOf half
  rw [cnt_take ns h hp (by omega), decide_eq_false (by omega)]; rfl
theorem quorum_more {ns : List Int} {h : Nat} (hp : ns.Pairwise (· < ·)) (h1 : h + 1 ≤ ns.length) (hh : ns.length < 2 * (h + 1)) : quorumOf [] ns (ns.take (h + 1)) = true := by
  unfold quorumOf half
  rw [cnt_take ns (h + 1) hp h1, decide_eq_true hh]; rfl

set_option maxRecDepth 20000 in
set_option maxHeartbeats 8000000 in
theorem more_walk (old now yes more : Int) (w : World) : Calls Try.prog 6 #[.int .i64 old, .int .i64 now, .int .i64 yes, .int .i64 more] w fun e w' => e = .returned (.bool true) ∧ Below w.heap.size w w' := by
  have KN := hide (known_any w)
  go_enter Try.func6, Try.ntmps6
  go_wp2_with fail
  refine (unhide KN).mono ?_
  rintro e w1 ⟨rfl, b1⟩
  have B1 := hide b1
  have GO := hide (good_any old now w1)
  clear b1 KN
  go_wp2_with fail
  refine (unhide GO).mono ?_
  rintro e w2 ⟨v2, rfl, ⟨ao, no, co, an, nn, cn, rfl, eno, _, fo, enn, hcn, fn⟩, b2⟩
  obtain ⟨os, hos⟩ : ∃ os, lst (bitOf old) 9 = os := ⟨_, rfl⟩
  obtain ⟨ns, hns⟩ : ∃ ns, plainOf (bitOf now) = ns := ⟨_, rfl⟩
  have UO : Hid (Up os ∧ os.length ≤ 7) := by rw [← hos]; exact ⟨lst_Up _, lst_len _⟩
  have UN : Hid (Up ns ∧ ns.length ≤ 7 ∧ ns ≠ []) := by rw [← hns]; exact ⟨plain_Up _, plain_len _, plain_ne _⟩
  rw [hos] at eno fo
  rw [hns] at enn fn
  obtain ⟨A0, hA0, bA0, xA0, -⟩ := boxed w2 (.slice ao no co) (.slice an nn cn)
  have b12 := (unhide B1).trans (b2.mono (unhide B1).size)
  have HA0 := hide hA0
  have BA0 := hide (b12.trans (bA0.mono b12.size))
  have S0 := hide (fun (Y : World) (h : Below A0.heap.size A0 Y) => And.intro (Below.stay h xA0) (And.intro ((fo.below bA0).below h) ((fn.below bA0).below h)))
  have ENO := hide eno
  have ENN := hide enn
  have hno7 : no ≤ 7 := by rw [← eno]; exact (unhide UO).2
  have hnn7 : nn ≤ 7 := by rw [← enn]; exact (unhide UN).2.1
  have hnn1 : 1 ≤ nn := by rw [← enn]; exact List.length_pos_iff.2 (unhide UN).2.2
  have AX := hide (all_any yes A0)
  clear hos hns eno enn fo fn b2 b12 hA0 bA0 xA0 GO B1
  go_upto_region 4 with fail
  rw [unhide HA0]
  clear HA0
  go_wp2_with fail
  refine (unhide AX).mono ?_
  rintro e w3 ⟨v3, rfl, o3, b3⟩
  obtain ⟨ax, cx, rfl, fx, _, _⟩ := o3.slice
  obtain ⟨xs, hxs⟩ : ∃ xs, allOf (bitOf yes) 9 = xs := ⟨_, rfl⟩
  have hX9 : xs.length ≤ 9 := by rw [← hxs]; exact (all_up _ 9).2.2
  rw [hxs] at fx
  rw [hxs]
  obtain ⟨X, hX⟩ : ∃ X, xs.length = X := ⟨_, rfl⟩
  rw [hX] at hX9
  rw [hX]
  have HX := hide hX
  have E3 := hide b3
  obtain ⟨A1, hA1⟩ : ∃ A1, w3.alloc (.cells #[] 3) = A1 := ⟨_, rfl⟩
  have bA1 : Below w3.heap.size w3 A1 := by rw [← hA1]; exact (Below.refl _ w3).alloc (Nat.le_refl _) _
  have OA : Hid (Ir w3.heap.size A1 (.slice (some ⟨w3.heap.size, 0, none⟩) 0 0) []) := by rw [← hA1]; exact empty_ir _ _ (Nat.le_refl _)
  have FX := hide (fx.below bA1)
  have FX3 := hide fx
  have HA1 := hide hA1
  have BA1 := hide bA1
  have s31 : w3.heap.size ≤ A1.heap.size := bA1.size
  have AM := hide (fun (Y : World) => all_any more Y)
  clear o3 b3 fx hxs hX hA1 bA1 AX
  go_upto_region 5 with fail
  go_wp2_with (at_builtin; rw [unhide HA1]; refine wpList_app rfl (.tmp 20) (.tmp 21) rfl w3.heap.size _ [] rfl (unhide OA) ax X cx xs rfl (unhide HX) (unhide FX).1 (by simp; omega) s31 ?_)
  intro v4 w4 own4 g4
  have B4 := hide ((unhide OA).grown g4 (unhide BA1) s31)
  have OW := hide own4
  clear own4 g4
  go_wp2_with fail
  refine (unhide AM _).mono ?_
  rintro e w5 ⟨v5, rfl, o5, b5⟩
  obtain ⟨ay, cy, rfl, fy, _, _⟩ := o5.slice
  obtain ⟨ys, hys⟩ : ∃ ys, allOf (bitOf more) 9 = ys := ⟨_, rfl⟩
  have hY9 : ys.length ≤ 9 := by rw [← hys]; exact (all_up _ 9).2.2
  rw [hys] at fy
  rw [hys]
  obtain ⟨Yn, hY⟩ : ∃ Yn, ys.length = Yn := ⟨_, rfl⟩
  rw [hY] at hY9
  rw [hY]
  have HY := hide hY
  have FY := hide fy
  have OW5 := hide ((unhide OW).below b5)
  have B5 := hide ((unhide B4).trans (b5.mono (unhide B4).size))
  have s35 := (unhide B5).size
  clear o5 b5 fy hys hY OW B4 AM
  go_wp2_with (at_builtin; refine wpList_app rfl (.tmp 22) (.tmp 24) rfl w3.heap.size _ xs rfl (unhide OW5) ay Yn cy ys rfl (unhide HY) (unhide FY).1 (by rw [unhide HX]; omega) s35 ?_)
  intro v6 w6 own6 g6
  have B6 := hide ((unhide OW5).grown g6 (unhide B5) s35)
  obtain ⟨az, cz, rfl, fz, _, _⟩ := own6.slice
  obtain ⟨zs, hzs⟩ : ∃ zs, xs ++ ys = zs := ⟨_, rfl⟩
  have MZ : Hid (∀ a, a ∈ xs → a ∈ zs) := by rw [← hzs]; exact fun a ha => List.mem_append_left _ ha
  have hZ : zs.length ≤ 18 := by rw [← hzs, List.length_append, unhide HX, unhide HY]; omega
  rw [hzs] at fz
  rw [hzs]
  obtain ⟨Zn, hZn⟩ : ∃ Zn, zs.length = Zn := ⟨_, rfl⟩
  rw [hZn] at hZ
  rw [hZn]
  have HZ := hide hZn
  have E6 := hide ((unhide E3).trans ((unhide B6).mono (unhide E3).size))
  have S6 := hide (fun (Y : World) (h : Below w6.heap.size w6 Y) => unhide S0 Y ((unhide E6).trans (h.mono (unhide E6).size)))
  have SX := hide (fun (Y : World) (h : Below w6.heap.size w6 Y) => two_cells (unhide S6 Y h).1)
  have IX := hide (fun (Y : World) (h : Below w6.heap.size w6 Y) => ((unhide FX3).below (Below.mono (unhide B6) (Nat.le_refl _))).1.below h)
  have IZ := hide (fun (Y : World) (h : Below w6.heap.size w6 Y) => fz.1.below h)
  have BF := hide ((unhide BA0).trans ((unhide E6).mono (unhide BA0).size))
  clear own6 g6 hzs fz hZn B5 B6 OW5 E3 OA FX FX3 HA1 BA1 FY HY s31 s35 S0 E6 BA0
  have Q1 := hide (fun (Y : World) (h : Below w6.heap.size w6 Y) => quorum_any ao an no nn co cn os ns (unhide ENO) (unhide ENN) ax X cx xs (unhide HX) (by omega) (by omega) (by omega) Y (unhide S6 Y h).2.1.1 (unhide S6 Y h).2.2.1 (unhide IX Y h))
  have Q2 := hide (fun (Y : World) (h : Below w6.heap.size w6 Y) => quorum_any ao an no nn co cn os ns (unhide ENO) (unhide ENN) az Zn cz zs (unhide HZ) (by omega) (by omega) (by omega) Y (unhide S6 Y h).2.1.1 (unhide S6 Y h).2.2.1 (unhide IZ Y h))
  have Q4 := hide (fun (Y : World) (h : Below w6.heap.size w6 Y) => quorum_any ao an no nn co cn os ns (unhide ENO) (unhide ENN) none 0 0 [] rfl (by omega) (by omega) (by decide) Y (unhide S6 Y h).2.1.1 (unhide S6 Y h).2.2.1 (IntsR.nil _ _))
  rw [quorum_none] at Q4
  have ME := hide (fun (Y : World) (h : Below w6.heap.size w6 Y) => members_any ao an no nn co cn os ns (unhide ENO) (unhide ENN) (by omega) (by omega) Y (unhide S6 Y h).2.1.1 (unhide S6 Y h).2.2.1)
  obtain ⟨q1, hq1⟩ : ∃ b, quorumOf os ns xs = b := ⟨_, rfl⟩
  obtain ⟨q2, hq2⟩ : ∃ b, quorumOf os ns zs = b := ⟨_, rfl⟩
  have HQ : Hid (q1 = true → q2 = true) := fun h => by rw [← hq2]; exact quorum_mono (unhide MZ) (hq1.trans h)
  rw [hq1] at Q1
  rw [hq2] at Q2
  clear hq1 hq2
  have EZ := hide (Below.refl w6.heap.size w6).drew
  obtain ⟨c0, c1⟩ := unhide SX _ (Below.refl w6.heap.size w6)
  go_upto_region 6 with fail
  go_cut [45] from 26 to 44 (fun sb wc => sb = .bool false ∧ Below w6.heap.size w6 wc)
  case first =>
    cases q1
    · clear HQ
      first
      | (go_region_with (first
            | (go_at_call_of 18 (Value.slice ax X cx)
               refine (unhide Q1 _ (unhide EZ)).mono ?_
               rintro e wz ⟨rfl, bz⟩
               have E0 := hide ((unhide EZ).trans (bz.mono (unhide EZ).size))
               clear bz EZ
               have EZ := E0
               clear E0
               obtain ⟨c0, c1⟩ := unhide SX _ (unhide EZ))
            | (go_at_call_of 18 (Value.slice az Zn cz)
               refine (unhide Q2 _ (unhide EZ)).mono ?_
               rintro e wz ⟨rfl, bz⟩
               have E0 := hide ((unhide EZ).trans (bz.mono (unhide EZ).size))
               clear bz EZ
               have EZ := E0
               clear E0
               obtain ⟨c0, c1⟩ := unhide SX _ (unhide EZ))
            | (go_at_call 14
               refine (unhide ME _ (unhide EZ)).mono ?_
               rintro e wz ⟨am, mm, cm, rfl, em, hmc, hml, fm, bz⟩
               have E0 := hide ((unhide EZ).trans (bz.mono (unhide EZ).size))
               have Q3 := hide (fun (Y : World) (h : Below wz.heap.size wz Y) (h2 : Below w6.heap.size w6 Y) => quorum_any ao an no nn co cn os ns (unhide ENO) (unhide ENN) am mm cm (ris (os ++ ns)) em (by omega) (by omega) hml Y (unhide S6 Y h2).2.1.1 (unhide S6 Y h2).2.2.1 (fm.1.below h))
               rw [quorum_members (unhide UN).2.2] at Q3
               have EM := hide (Below.refl wz.heap.size wz)
               clear bz EZ em fm hmc
               have EZ := E0
               clear E0
               obtain ⟨c0, c1⟩ := unhide SX _ (unhide EZ))
            | (go_at_call_of 18 (Value.slice am mm cm)
               refine (unhide Q3 _ (unhide EM) (unhide EZ)).mono ?_
               rintro e wz ⟨rfl, bz⟩
               have E0 := hide ((unhide EZ).trans (bz.mono (unhide EZ).size))
               clear bz EZ
               have EZ := E0
               clear E0
               obtain ⟨c0, c1⟩ := unhide SX _ (unhide EZ))
            | (go_at_call_of 18 (Value.slice none 0 0)
               refine (unhide Q4 _ (unhide EZ)).mono ?_
               rintro e wz ⟨rfl, bz⟩
               have E0 := hide ((unhide EZ).trans (bz.mono (unhide EZ).size))
               clear bz EZ
               have EZ := E0
               clear E0
               obtain ⟨c0, c1⟩ := unhide SX _ (unhide EZ))))
      | fail
      all_goals go_wp2
      all_goals go_meet
      all_goals exact ⟨rfl, unhide EZ⟩
    · obtain rfl := unhide HQ rfl
      clear HQ c0 c1
      first
      | (go_region_held_law (fun Y => Y.cell? ⟨w2.heap.size, 0, none⟩ = some (.slice ao no co) ∧ Y.cell? ⟨w2.heap.size, 1, none⟩ = some (.slice an nn cn))
          (first | exact unhide SX _ (unhide EZ))
          (first
            | (go_at_call_of 18 (Value.slice ax X cx)
               refine (unhide Q1 _ (unhide EZ)).mono ?_
               rintro e wz ⟨rfl, bz⟩
               have E0 := hide ((unhide EZ).trans (bz.mono (unhide EZ).size))
               clear bz EZ
               have EZ := E0
               clear E0)
            | (go_at_call_of 18 (Value.slice az Zn cz)
               refine (unhide Q2 _ (unhide EZ)).mono ?_
               rintro e wz ⟨rfl, bz⟩
               have E0 := hide ((unhide EZ).trans (bz.mono (unhide EZ).size))
               clear bz EZ
               have EZ := E0
               clear E0)
            | (go_at_call 14
               refine (unhide ME _ (unhide EZ)).mono ?_
               rintro e wz ⟨am, mm, cm, rfl, em, hmc, hml, fm, bz⟩
               have E0 := hide ((unhide EZ).trans (bz.mono (unhide EZ).size))
               have Q3 := hide (fun (Y : World) (h : Below wz.heap.size wz Y) (h2 : Below w6.heap.size w6 Y) => quorum_any ao an no nn co cn os ns (unhide ENO) (unhide ENN) am mm cm (ris (os ++ ns)) em (by omega) (by omega) hml Y (unhide S6 Y h2).2.1.1 (unhide S6 Y h2).2.2.1 (fm.1.below h))
               rw [quorum_members (unhide UN).2.2] at Q3
               have EM := hide (Below.refl wz.heap.size wz)
               clear bz EZ em fm hmc
               have EZ := E0
               clear E0)
            | (go_at_call_of 18 (Value.slice am mm cm)
               refine (unhide Q3 _ (unhide EM) (unhide EZ)).mono ?_
               rintro e wz ⟨rfl, bz⟩
               have E0 := hide ((unhide EZ).trans (bz.mono (unhide EZ).size))
               clear bz EZ
               have EZ := E0
               clear E0)
            | (go_at_call_of 18 (Value.slice none 0 0)
               refine (unhide Q4 _ (unhide EZ)).mono ?_
               rintro e wz ⟨rfl, bz⟩
               have E0 := hide ((unhide EZ).trans (bz.mono (unhide EZ).size))
               clear bz EZ
               have EZ := E0
               clear E0)))
      | fail
      all_goals go_wp2
      all_goals go_meet
      all_goals exact ⟨rfl, unhide EZ⟩
  case rest =>
  obtain ⟨rfl, b7⟩ := hcut
  obtain ⟨h, hh⟩ : ∃ h : Nat, (nn : Int) / 2 = (h : Int) := ⟨nn / 2, by omega⟩
  have h2 : 2 * h ≤ nn := by omega
  have h3 : nn < 2 * (h + 1) := by omega
  have Q5 := hide (fun (Y : World) (hY : Below w6.heap.size w6 Y) => quorum_any ao an no nn co cn os ns (unhide ENO) (unhide ENN) an h cn (ns.take h) (by rw [List.length_take, unhide ENN]; omega) (by omega) (by omega) (by omega) Y (unhide S6 Y hY).2.1.1 (unhide S6 Y hY).2.2.1 ((unhide S6 Y hY).2.2.take h).1)
  rw [quorum_half (unhide UN).1.1 (by rw [unhide ENN]; exact h2)] at Q5
  have JO := hide (fun (Y : World) => joint_any (.slice ao no co) (.slice an nn cn) ao no co rfl Y)
  have EW := hide b7
  have EZ := hide b7.drew
  obtain ⟨c0, c1⟩ := unhide SX _ b7
  have hc1 : (h : Int) ≤ (cn : Int) := by omega
  have hc2 : (h : Int) + 1 ≤ (cn : Int) := by omega
  have hh9 : (h : Int) ≤ 7 := by omega
  have hk1 : h ≤ cn := by omega
  have hk2 : h + 1 ≤ cn := by omega
  have hk3 : (0 : Int) ≤ (h : Int) + 1 := by omega
  have hk4 : ((h : Int) + 1).toNat = h + 1 := by omega
  have HK5 : Hid (IntKind.i64.wrap ((h : Int) + 1) = (h : Int) + 1) := IntWalk.i64_in _ (by omega)
  by_cases hj : 0 < no
  · rw [decide_eq_true hj] at JO
    clear b7 Q1 Q2 Q4 ME HQ h2 h3 hj
    go_upto_region 9 with fail
    refine wp_region_held_drew (S := (fun Y => Y.cell? ⟨w2.heap.size, 0, none⟩ = some (.slice ao no co) ∧ Y.cell? ⟨w2.heap.size, 1, none⟩ = some (.slice an nn cn))) (by kernel_rfl) (unhide SX _ (unhide EZ)) (fun hHeld => ?_)
    refine wpAnyH_take (i := 0) (v := .agg #[.slice ao no co, .slice an nn cn]) rfl (by kernel_rfl) (by kernel_rfl) (by kernel_rfl) (fun _ _ _ h => h) (Or.inl ⟨by rfl, ?_⟩) (by assumption) ?_
    · intro Y hY
      obtain ⟨hY0, hY1⟩ := hY
      go_simp
      all_goals with_reducible rfl
    dsimp only [Act.put]
    refine wpAnyH_take (i := 1) (v := .pointer (some ⟨w2.heap.size, 1, none⟩)) rfl (by kernel_rfl) (by kernel_rfl) (by kernel_rfl) (fun _ _ _ h => h) (Or.inl ⟨by rfl, ?_⟩) (by assumption) ?_
    · intro Y hY
      obtain ⟨hY0, hY1⟩ := hY
      go_simp
      all_goals with_reducible rfl
    dsimp only [Act.put]
    refine wpAnyH_take (i := 2) (v := .slice an nn cn) rfl (by kernel_rfl) (by kernel_rfl) (by kernel_rfl) (fun _ _ _ h => h) (Or.inl ⟨by rfl, ?_⟩) (by assumption) ?_
    · intro Y hY
      obtain ⟨hY0, hY1⟩ := hY
      go_simp
      all_goals with_reducible rfl
    dsimp only [Act.put]
    refine wpAnyH_take (i := 3) (v := .int .i64 (h : Int)) rfl (by kernel_rfl) (by kernel_rfl) (by kernel_rfl) (fun _ _ _ h => h) (Or.inl ⟨by rfl, ?_⟩) (by assumption) ?_
    · intro Y hY
      obtain ⟨hY0, hY1⟩ := hY
      go_simp
      all_goals with_reducible rfl
    dsimp only [Act.put]
    refine wpAnyH_ready (rs := [4]) (by kernel_rfl) (by simp) ?_
    refine AllReadyH.cons rfl (fun K hK => ?_) AllReadyH.nil
    go_simp
    refine hK.out _ _ ?_ (fun hHeld => ?_)
    · exact unhide SX _ (unhide EZ)
    clear hK K
    refine wpAnyH_ready (rs := [5]) (by kernel_rfl) (by simp) ?_
    refine AllReadyH.cons rfl (fun K hK => ?_) AllReadyH.nil
    go_simp
    refine (unhide Q5 _ (unhide EZ)).mono ?_
    rintro e wz ⟨rfl, bz⟩
    have E0 := hide ((unhide EZ).trans (bz.mono (unhide EZ).size))
    clear bz EZ
    have EZ := E0
    clear E0
    go_wp2_with fail
    refine hK.out _ _ ?_ (fun hHeld => ?_)
    · exact unhide SX _ (unhide EZ)
    clear hK K
    refine wpAnyH_take (i := 6) (v := .bool true) rfl (by kernel_rfl) (by kernel_rfl) (by kernel_rfl) (fun _ _ _ h => h) (Or.inl ⟨by rfl, ?_⟩) (by assumption) ?_
    · intro Y hY
      obtain ⟨hY0, hY1⟩ := hY
      go_simp
      all_goals with_reducible rfl
    dsimp only [Act.put]
    refine wpAnyH_take (i := 7) (v := .bool true) rfl (by kernel_rfl) (by kernel_rfl) (by kernel_rfl) (fun _ _ _ h => h) (Or.inl ⟨by rfl, ?_⟩) (by assumption) ?_
    · intro Y hY
      obtain ⟨hY0, hY1⟩ := hY
      go_simp
      all_goals with_reducible rfl
    dsimp only [Act.put]
    refine wpAnyH_take (i := 8) (v := .agg #[.slice ao no co, .slice an nn cn]) rfl (by kernel_rfl) (by kernel_rfl) (by kernel_rfl) (fun _ _ _ h => h) (Or.inl ⟨by rfl, ?_⟩) (by assumption) ?_
    · intro Y hY
      obtain ⟨hY0, hY1⟩ := hY
      go_simp
      all_goals with_reducible rfl
    dsimp only [Act.put]
    refine wpAnyH_ready (rs := [9]) (by kernel_rfl) (by simp) ?_
    refine AllReadyH.cons rfl (fun K hK => ?_) AllReadyH.nil
    go_simp
    refine (unhide JO _).mono ?_
    rintro e wz ⟨rfl, bz⟩
    have E0 := hide ((unhide EZ).trans (bz.mono (unhide EZ).size))
    clear bz EZ
    have EZ := E0
    clear E0
    go_wp2_with fail
    refine hK.out _ _ ?_ (fun hHeld => ?_)
    · exact unhide SX _ (unhide EZ)
    clear hK K
    refine wpAnyH_take (i := 10) (v := .bool true) rfl (by kernel_rfl) (by kernel_rfl) (by kernel_rfl) (fun _ _ _ h => h) (Or.inl ⟨by rfl, ?_⟩) (by assumption) ?_
    · intro Y hY
      obtain ⟨hY0, hY1⟩ := hY
      go_simp
      all_goals with_reducible rfl
    dsimp only [Act.put]
    refine wpAnyH_take (i := 11) (v := undef) rfl (by kernel_rfl) (by kernel_rfl) (by kernel_rfl) (fun _ _ _ h => h) (Or.inr ⟨by rfl, rfl⟩) (by assumption) ?_
    dsimp only [Act.put]
    refine wpAnyH_take (i := 12) (v := undef) rfl (by kernel_rfl) (by kernel_rfl) (by kernel_rfl) (fun _ _ _ h => h) (Or.inr ⟨by rfl, rfl⟩) (by assumption) ?_
    dsimp only [Act.put]
    refine wpAnyH_take (i := 13) (v := undef) rfl (by kernel_rfl) (by kernel_rfl) (by kernel_rfl) (fun _ _ _ h => h) (Or.inr ⟨by rfl, rfl⟩) (by assumption) ?_
    dsimp only [Act.put]
    refine wpAnyH_take (i := 14) (v := undef) rfl (by kernel_rfl) (by kernel_rfl) (by kernel_rfl) (fun _ _ _ h => h) (Or.inr ⟨by rfl, rfl⟩) (by assumption) ?_
    dsimp only [Act.put]
    refine wpAnyH_take (i := 15) (v := undef) rfl (by kernel_rfl) (by kernel_rfl) (by kernel_rfl) (fun _ _ _ h => h) (Or.inr ⟨by rfl, rfl⟩) (by assumption) ?_
    dsimp only [Act.put]
    refine wpAnyH_take (i := 16) (v := undef) rfl (by kernel_rfl) (by kernel_rfl) (by kernel_rfl) (fun _ _ _ h => h) (Or.inr ⟨by rfl, rfl⟩) (by assumption) ?_
    dsimp only [Act.put]
    refine wpAnyH_take (i := 17) (v := undef) rfl (by kernel_rfl) (by kernel_rfl) (by kernel_rfl) (fun _ _ _ h => h) (Or.inr ⟨by rfl, rfl⟩) (by assumption) ?_
    dsimp only [Act.put]
    refine wpAnyH_ready (rs := [18]) (by kernel_rfl) (by simp) ?_
    refine AllReadyH.cons rfl (fun K hK => ?_) AllReadyH.nil
    go_simp
    refine hK.out _ _ ?_ (fun hHeld => ?_)
    · exact unhide SX _ (unhide EZ)
    clear hK K
    refine wpAnyH_ready (rs := [19]) (by kernel_rfl) (by simp) ?_
    refine AllReadyH.cons rfl (fun K hK => ?_) AllReadyH.nil
    go_simp
    refine hK.out _ _ ?_ (fun hHeld => ?_)
    · exact unhide SX _ (unhide EZ)
    clear hK K
    refine wpAnyH_ready (rs := [20]) (by kernel_rfl) (by simp) ?_
    refine AllReadyH.cons rfl (fun K hK => ?_) AllReadyH.nil
    go_simp
    refine hK.out _ _ ?_ (fun hHeld => ?_)
    · exact unhide SX _ (unhide EZ)
    clear hK K
    refine wpAnyH_done (by kernel_rfl) ?_ _
    go_wp2
    go_ret
    exact ⟨rfl, (unhide BF).trans ((unhide EZ).mono (unhide BF).size)⟩
  · rw [decide_eq_false hj] at JO
    have hos : os = [] := List.eq_nil_of_length_eq_zero (by rw [unhide ENO]; omega)
    have Q6 := hide (fun (Y : World) (hY : Below w6.heap.size w6 Y) => quorum_any ao an no nn co cn os ns (unhide ENO) (unhide ENN) an (h + 1) cn (ns.take (h + 1)) (by rw [List.length_take, unhide ENN]; omega) (by omega) (by omega) (by omega) Y (unhide S6 Y hY).2.1.1 (unhide S6 Y hY).2.2.1 ((unhide S6 Y hY).2.2.take (h + 1)).1)
    rw [show quorumOf os ns (ns.take (h + 1)) = true by rw [hos]; exact quorum_more (unhide UN).1.1 (by rw [unhide ENN]; omega) (by rw [unhide ENN]; exact h3)] at Q6
    clear b7 Q1 Q2 Q4 ME HQ h2 h3 hj hos c0 c1
    obtain ⟨c0, c1⟩ := unhide SX _ (unhide EW)
    go_upto_region 9 with fail
    clear c0 c1
    refine wp_region_held_drew (S := (fun Y => Y.cell? ⟨w2.heap.size, 0, none⟩ = some (.slice ao no co) ∧ Y.cell? ⟨w2.heap.size, 1, none⟩ = some (.slice an nn cn))) (by kernel_rfl) (unhide SX _ (unhide EZ)) (fun hHeld => ?_)
    refine wpAnyH_take (i := 0) (v := .agg #[.slice ao no co, .slice an nn cn]) rfl (by kernel_rfl) (by kernel_rfl) (by kernel_rfl) (fun _ _ _ h => h) (Or.inl ⟨by rfl, ?_⟩) (by assumption) ?_
    · intro Y hY
      obtain ⟨hY0, hY1⟩ := hY
      go_simp
      all_goals with_reducible rfl
    dsimp only [Act.put]
    refine wpAnyH_take (i := 1) (v := .pointer (some ⟨w2.heap.size, 1, none⟩)) rfl (by kernel_rfl) (by kernel_rfl) (by kernel_rfl) (fun _ _ _ h => h) (Or.inl ⟨by rfl, ?_⟩) (by assumption) ?_
    · intro Y hY
      obtain ⟨hY0, hY1⟩ := hY
      go_simp
      all_goals with_reducible rfl
    dsimp only [Act.put]
    refine wpAnyH_take (i := 2) (v := .slice an nn cn) rfl (by kernel_rfl) (by kernel_rfl) (by kernel_rfl) (fun _ _ _ h => h) (Or.inl ⟨by rfl, ?_⟩) (by assumption) ?_
    · intro Y hY
      obtain ⟨hY0, hY1⟩ := hY
      go_simp
      all_goals with_reducible rfl
    dsimp only [Act.put]
    refine wpAnyH_take (i := 3) (v := .int .i64 (h : Int)) rfl (by kernel_rfl) (by kernel_rfl) (by kernel_rfl) (fun _ _ _ h => h) (Or.inl ⟨by rfl, ?_⟩) (by assumption) ?_
    · intro Y hY
      obtain ⟨hY0, hY1⟩ := hY
      go_simp
      all_goals with_reducible rfl
    dsimp only [Act.put]
    refine wpAnyH_ready (rs := [4]) (by kernel_rfl) (by simp) ?_
    refine AllReadyH.cons rfl (fun K hK => ?_) AllReadyH.nil
    go_simp
    refine hK.out _ _ ?_ (fun hHeld => ?_)
    · exact unhide SX _ (unhide EZ)
    clear hK K
    refine wpAnyH_ready (rs := [5]) (by kernel_rfl) (by simp) ?_
    refine AllReadyH.cons rfl (fun K hK => ?_) AllReadyH.nil
    go_simp
    refine (unhide Q5 _ (unhide EZ)).mono ?_
    rintro e wz ⟨rfl, bz⟩
    have E0 := hide ((unhide EZ).trans (bz.mono (unhide EZ).size))
    clear bz EZ
    have EZ := E0
    clear E0
    go_wp2_with fail
    refine hK.out _ _ ?_ (fun hHeld => ?_)
    · exact unhide SX _ (unhide EZ)
    clear hK K
    refine wpAnyH_take (i := 6) (v := .bool true) rfl (by kernel_rfl) (by kernel_rfl) (by kernel_rfl) (fun _ _ _ h => h) (Or.inl ⟨by rfl, ?_⟩) (by assumption) ?_
    · intro Y hY
      obtain ⟨hY0, hY1⟩ := hY
      go_simp
      all_goals with_reducible rfl
    dsimp only [Act.put]
    refine wpAnyH_take (i := 7) (v := .bool true) rfl (by kernel_rfl) (by kernel_rfl) (by kernel_rfl) (fun _ _ _ h => h) (Or.inl ⟨by rfl, ?_⟩) (by assumption) ?_
    · intro Y hY
      obtain ⟨hY0, hY1⟩ := hY
      go_simp
      all_goals with_reducible rfl
    dsimp only [Act.put]
    refine wpAnyH_take (i := 8) (v := .agg #[.slice ao no co, .slice an nn cn]) rfl (by kernel_rfl) (by kernel_rfl) (by kernel_rfl) (fun _ _ _ h => h) (Or.inl ⟨by rfl, ?_⟩) (by assumption) ?_
    · intro Y hY
      obtain ⟨hY0, hY1⟩ := hY
      go_simp
      all_goals with_reducible rfl
    dsimp only [Act.put]
    refine wpAnyH_ready (rs := [9]) (by kernel_rfl) (by simp) ?_
    refine AllReadyH.cons rfl (fun K hK => ?_) AllReadyH.nil
    go_simp
    refine (unhide JO _).mono ?_
    rintro e wz ⟨rfl, bz⟩
    have E0 := hide ((unhide EZ).trans (bz.mono (unhide EZ).size))
    clear bz EZ
    have EZ := E0
    clear E0
    go_wp2_with fail
    refine hK.out _ _ ?_ (fun hHeld => ?_)
    · exact unhide SX _ (unhide EZ)
    clear hK K
    refine wpAnyH_take (i := 10) (v := .bool false) rfl (by kernel_rfl) (by kernel_rfl) (by kernel_rfl) (fun _ _ _ h => h) (Or.inl ⟨by rfl, ?_⟩) (by assumption) ?_
    · intro Y hY
      obtain ⟨hY0, hY1⟩ := hY
      go_simp
      all_goals with_reducible rfl
    dsimp only [Act.put]
    refine wpAnyH_take (i := 11) (v := .agg #[.slice ao no co, .slice an nn cn]) rfl (by kernel_rfl) (by kernel_rfl) (by kernel_rfl) (fun _ _ _ h => h) (Or.inl ⟨by rfl, ?_⟩) (by assumption) ?_
    · intro Y hY
      obtain ⟨hY0, hY1⟩ := hY
      go_simp
      all_goals with_reducible rfl
    dsimp only [Act.put]
    refine wpAnyH_take (i := 12) (v := .pointer (some ⟨w2.heap.size, 1, none⟩)) rfl (by kernel_rfl) (by kernel_rfl) (by kernel_rfl) (fun _ _ _ h => h) (Or.inl ⟨by rfl, ?_⟩) (by assumption) ?_
    · intro Y hY
      obtain ⟨hY0, hY1⟩ := hY
      go_simp
      all_goals with_reducible rfl
    dsimp only [Act.put]
    refine wpAnyH_take (i := 13) (v := .slice an nn cn) rfl (by kernel_rfl) (by kernel_rfl) (by kernel_rfl) (fun _ _ _ h => h) (Or.inl ⟨by rfl, ?_⟩) (by assumption) ?_
    · intro Y hY
      obtain ⟨hY0, hY1⟩ := hY
      go_simp
      all_goals with_reducible rfl
    dsimp only [Act.put]
    refine wpAnyH_take (i := 14) (v := .int .i64 (h : Int)) rfl (by kernel_rfl) (by kernel_rfl) (by kernel_rfl) (fun _ _ _ h => h) (Or.inl ⟨by rfl, ?_⟩) (by assumption) ?_
    · intro Y hY
      obtain ⟨hY0, hY1⟩ := hY
      go_simp
      all_goals with_reducible rfl
    dsimp only [Act.put]
    have hk5 := unhide HK5
    refine wpAnyH_take (i := 15) (v := .int .i64 ((h : Int) + 1)) rfl (by kernel_rfl) (by kernel_rfl) (by kernel_rfl) (fun _ _ _ h => h) (Or.inl ⟨by rfl, ?_⟩) (by assumption) ?_
    · intro Y hY
      obtain ⟨hY0, hY1⟩ := hY
      go_simp
      all_goals with_reducible rfl
    dsimp only [Act.put]
    clear hk5
    refine wpAnyH_ready (rs := [16]) (by kernel_rfl) (by simp) ?_
    refine AllReadyH.cons rfl (fun K hK => ?_) AllReadyH.nil
    go_simp
    refine hK.out _ _ ?_ (fun hHeld => ?_)
    · exact unhide SX _ (unhide EZ)
    clear hK K
    refine wpAnyH_ready (rs := [17]) (by kernel_rfl) (by simp) ?_
    refine AllReadyH.cons rfl (fun K hK => ?_) AllReadyH.nil
    go_simp
    refine (unhide Q6 _ (unhide EZ)).mono ?_
    rintro e wz ⟨rfl, bz⟩
    have E0 := hide ((unhide EZ).trans (bz.mono (unhide EZ).size))
    clear bz EZ
    have EZ := E0
    clear E0
    go_wp2_with fail
    refine hK.out _ _ ?_ (fun hHeld => ?_)
    · exact unhide SX _ (unhide EZ)
    clear hK K
    refine wpAnyH_ready (rs := [18]) (by kernel_rfl) (by simp) ?_
    refine AllReadyH.cons rfl (fun K hK => ?_) AllReadyH.nil
    go_simp
    refine hK.out _ _ ?_ (fun hHeld => ?_)
    · exact unhide SX _ (unhide EZ)
    clear hK K
    refine wpAnyH_ready (rs := [19]) (by kernel_rfl) (by simp) ?_
    refine AllReadyH.cons rfl (fun K hK => ?_) AllReadyH.nil
    go_simp
    refine hK.out _ _ ?_ (fun hHeld => ?_)
    · exact unhide SX _ (unhide EZ)
    clear hK K
    refine wpAnyH_ready (rs := [20]) (by kernel_rfl) (by simp) ?_
    refine AllReadyH.cons rfl (fun K hK => ?_) AllReadyH.nil
    go_simp
    refine hK.out _ _ ?_ (fun hHeld => ?_)
    · exact unhide SX _ (unhide EZ)
    clear hK K
    refine wpAnyH_done (by kernel_rfl) ?_ _
    go_wp2
    go_ret
    exact ⟨rfl, (unhide BF).trans ((unhide EZ).mono (unhide BF).size)⟩
end Go.Proofs.Ythemdkfmlkaifaa

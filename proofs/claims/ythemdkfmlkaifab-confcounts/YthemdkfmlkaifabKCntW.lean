/- ConfCounts: the walk. -/
import Derived.Test.YthemdkfmlkaifabKKnown
import Derived.Deep.RegionHeldLaw
namespace Go.Proofs.Ythemdkfmlkaifab
open Go.RowKit

theorem contains_take {ys : List Int} {j : Nat} (h : j < ys.length) (x : Int) : (ys.take (j + 1)).contains x = ((ys.take j).contains x || (ys.getD j 0 == x)) := by
  rw [take_succ ys 0 j h, Bool.eq_iff_iff, List.contains_iff_mem, List.mem_append, Bool.or_eq_true, List.contains_iff_mem, List.mem_singleton, beq_iff_eq, eq_comm (a := x)]
theorem quorum_plain (new ys : List Int) : quorumOf [] new ys = half new ys := by simp [quorumOf]

set_option maxRecDepth 20000 in
set_option maxHeartbeats 2000000 in
theorem counts_walk (bits : Int) (ay : Option Addr) (m d : Nat) (ys : List Int) (hm : ys.length = m) (hmm : m ≤ maxLen) (w : World) (hy : IntsR w ay ys) :
    Calls Try.prog 3 #[.int .i64 bits, .slice ay m d] w fun e w' => e = .returned (.bool true) ∧ Below w.heap.size w w' := by
  have hmm' : m ≤ 9223372036854775807 := hmm
  have KN := hide (known_any w)
  have HY := hide hy
  have HM := hide hm
  clear hy hm hmm
  go_enter Try.func3, Try.ntmps3
  go_wp2_with fail
  refine (unhide KN).mono ?_
  rintro e w1 ⟨rfl, b1⟩
  have B1 := hide b1
  have PL := hide (plain_any bits w1)
  clear b1 KN
  by_cases h40 : (40 : Int) < m
  · go_wp2
    go_ret
    exact ⟨rfl, unhide B1⟩
  · go_wp2_with fail
    refine (unhide PL).mono ?_
    rintro e w2 ⟨an, n, c, rfl, hn, hnc, fr, b2⟩
    have hn7 : n ≤ 7 := by rw [← hn]; exact plain_len _
    obtain ⟨ps, hps⟩ : ∃ ps, plainOf (bitOf bits) = ps := ⟨_, rfl⟩
    rw [hps] at hn fr
    obtain ⟨W, hW⟩ : ∃ W, w2.alloc (.cells #[.slice none 0 0, .slice an n c] 25) = W := ⟨_, rfl⟩
    have bW : Below w2.heap.size w2 W := by rw [← hW]; exact (Below.refl _ w2).alloc (Nat.le_refl _) _
    have xW : W.heap[w2.heap.size]? = some (.cells #[.slice none 0 0, .slice an n c] 25 (0, 0)) := by rw [← hW]; exact box_at _ _
    have HW := hide hW
    have B2 := hide ((unhide B1).trans (b2.mono (unhide B1).size))
    have BW := hide ((unhide B2).trans (bW.mono (unhide B2).size))
    have SX := hide (fun (Y : World) (h : Below W.heap.size W Y) => two_cells ((h.block w2.heap.size (by rw [← hW]; simp)).trans xW))
    have IP := hide (fun (Y : World) (h : Below W.heap.size W Y) => (fr.1.below bW).below h)
    have IY := hide (fun (Y : World) (h : Below W.heap.size W Y) => ((unhide HY).below (Below.mono (unhide BW) (Nat.le_refl _))).below h)
    have HN := hide hn
    clear hW bW xW fr hps b2 hn PL B1
    go_upto_region 6 with fail
    rw [unhide HW]
    clear HW
    go_wp2_with fail
    go_loopw [7, 6, 8, 9] (fun i s _ _ wr => ∃ k C : Nat, k ≤ n ∧ i = .int .i64 k ∧ s = .int .i64 C ∧ cnt (ps.take k) ys = C ∧ C ≤ k ∧ Below W.heap.size W wr) (fun i _ _ _ _ => n - (intOf i).toNat)
    case atStart => exact ⟨0, 0, Nat.zero_le _, rfl, rfl, by simp [cnt], Nat.le_refl _, Below.refl _ _⟩
    case round =>
      obtain ⟨k, C, hk, rfl, rfl, hC, hCk, hbel⟩ := hrel
      obtain ⟨c0, c1⟩ := unhide SX _ hbel
      have BEL := hide hbel
      have HC := hide hC
      clear hbel hC
      by_cases hlt : k < n
      · have q : (k : Int) < n := by omega
        have YES := hide (cnt_yes (xs := ps) (ys := ys) (k := k) (by rw [unhide HN]; exact hlt) (unhide HC))
        have NO := hide (cnt_no (xs := ps) (ys := ys) (k := k) (by rw [unhide HN]; exact hlt) (unhide HC))
        obtain ⟨a1, ha1, h1⟩ := (unhide IP) _ (unhide BEL) k (by rw [unhide HN]; exact hlt)
        subst ha1
        obtain ⟨x, hxk⟩ : ∃ x, ps.getD k 0 = x := ⟨_, rfl⟩
        rw [hxk] at h1 YES NO
        have H1 := hide h1
        clear h1 hxk
        obtain ⟨wk, hwk⟩ : ∃ wk, wk = wr := ⟨_, rfl⟩
        subst hwk
        go_wp2_with fail
        go_loopw [9, 8] (fun i s wq => ∃ j : Nat, j ≤ m ∧ i = .int .i64 j ∧ s = .bool ((ys.take j).contains x) ∧ Below wk.heap.size wk wq) (fun i _ _ => m - (intOf i).toNat)
        case atStart => exact ⟨0, Nat.zero_le _, rfl, by simp, Below.refl _ _⟩
        case round =>
          obtain ⟨j, hj, rfl, rfl, bel⟩ := hrel
          have BE := hide bel
          have BQ := hide ((unhide BEL).trans (bel.mono (unhide BEL).size))
          clear bel
          by_cases hlt2 : j < m
          · have q2 : (j : Int) < m := by omega
            have CT := hide (contains_take (ys := ys) (j := j) (by rw [unhide HM]; exact hlt2) x)
            obtain ⟨a2, ha2, h2⟩ := (unhide IY) _ (unhide BQ) j (by rw [unhide HM]; exact hlt2)
            subst ha2
            obtain ⟨y, hyk⟩ : ∃ y, ys.getD j 0 = y := ⟨_, rfl⟩
            rw [hyk] at h2 CT
            obtain ⟨e0, e1⟩ := unhide SX _ (unhide BQ)
            have h1 : wr.cell? (a1.add k) = some (.int .i64 x) := by rw [(unhide BE).cell (blk_lt (unhide H1))]; exact unhide H1
            obtain ⟨r, hr⟩ : ∃ r, (ys.take j).contains x = r := ⟨_, rfl⟩
            rw [hr] at CT
            rw [hr]
            clear hr hyk c0 c1
            cases r
            · go_wp2_with fail
              go_quiet (fail)
              go_wp2
              go_roundw
              case rel => exact ⟨j + 1, by omega, by go_num, by rw [unhide CT]; simp, (unhide BE).trans ((drewN_below _ _).mono (unhide BE).size)⟩
              case measure => simp [intOf]; omega
            · go_wp2_with fail
              go_quiet (fail)
              go_wp2
              go_roundw
              case rel => exact ⟨j + 1, by omega, by go_num, by rw [unhide CT]; simp, (unhide BE).trans ((drewN_below _ _).mono (unhide BE).size)⟩
              case measure => simp [intOf]; omega
          · obtain rfl : j = m := by omega
            have et : ys.take j = ys := by rw [← unhide HM, List.take_length]
            rw [et]
            clear et
            obtain ⟨r, hr⟩ : ∃ r, ys.contains x = r := ⟨_, rfl⟩
            rw [hr] at YES NO ⊢
            clear hr
            cases r
            · have N1 := hide (unhide NO rfl)
              clear NO YES
              go_wp2
              go_roundw
              case rel => exact ⟨k + 1, C, by omega, by go_num, rfl, unhide N1, by omega, unhide BQ⟩
              case measure => simp [intOf]; omega
            · have N1 := hide (unhide YES rfl)
              clear NO YES
              go_wp2
              go_roundw
              case rel => exact ⟨k + 1, C + 1, by omega, by go_num, by go_num, unhide N1, by omega, unhide BQ⟩
              case measure => simp [intOf]; omega
      · obtain rfl : k = n := by omega
        have hh : quorumOf [] ps ys = decide ((k : Int) < 2 * (C : Int)) := by
          rw [quorum_plain]
          unfold half
          have e : cnt ps ys = C := by rw [← unhide HC, ← unhide HN, List.take_length]
          rw [e, unhide HN, decide_eq_decide]; omega
        have QU := hide (fun (Y : World) (h : Below W.heap.size W Y) => quorum_any none an 0 k 0 c [] ps rfl (unhide HN) ay m d ys (unhide HM) (by decide) (by omega) (by omega) Y (IntsR.nil _ _) ((unhide IP) Y h) ((unhide IY) Y h))
        rw [hh] at QU
        have BD := hide (unhide BEL).drew
        have wrC : IntKind.i64.wrap (2 * (C : Int)) = 2 * (C : Int) := IntWalk.i64_in _ (by omega)
        clear hh
        go_wp2_with fail
        go_region_held_law (fun Y => Y.cell? ⟨w2.heap.size, 0, none⟩ = some (.slice none 0 0) ∧ Y.cell? ⟨w2.heap.size, 1, none⟩ = some (.slice an k c))
          (first | exact unhide SX _ (unhide B6) | exact unhide SX _ (unhide BD))
          (first
            | (go_at_call 6
               refine (unhide QU _ (unhide BD)).mono ?_
               rintro e w6 ⟨rfl, b6⟩
               have B6 := hide ((unhide BD).trans (b6.mono (unhide BD).size))
               clear b6))
        all_goals go_wp2
        all_goals go_ret
        all_goals exact ⟨by simp, (unhide BW).trans ((unhide B6).mono (unhide BW).size)⟩
end Go.Proofs.Ythemdkfmlkaifab

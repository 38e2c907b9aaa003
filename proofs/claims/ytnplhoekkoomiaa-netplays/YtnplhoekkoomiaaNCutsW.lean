/- NetCuts: its walk. -/
import Derived.Test.YtnplhoekkoomiaaNKnown
import Derived.Test.YtnplhoekkoomiaaNLcut
import Derived.BigQuiet
namespace Go.Proofs.Ytnplhoekkoomiaa
open Go.RowKit Go.Maps

theorem Ints.below {w w' : World} {b : Nat} {ao : Option Addr} {ys : List Int} (h : Ints w ao ys) (hb : Below b w w') (hs : ∀ a, ao = some a → a.block < b) : Ints w' ao ys := fun i y hy => by
  obtain ⟨a, e, c⟩ := h i y hy
  refine ⟨a, e, ?_⟩
  rw [hb.cell (by rw [add_block]; exact hs a e)]; exact c
theorem Ints.sub {w w' : World} {ao : Option Addr} {ys : List Int} (h : Ints w ao ys) (hb : Below w.heap.size w w') : Ints w' ao ys := fun i y hy => by
  obtain ⟨a, e, c⟩ := h i y hy
  exact ⟨a, e, by rw [hb.cell (blk_lt c)]; exact c⟩
theorem drewN_below (w : World) (n : Nat) : Below w.heap.size w (w.drewN n) := ⟨rfl, rfl, rfl, Nat.le_refl _, fun _ _ => rfl⟩
theorem wf_small {n : Nat} (h : n < 1000) : (Lit.int .i64 (n : Int)).wf = true := WalkArith.wf_i64 (by omega)

/-- one message, sent. -/
theorem send_one {base p : Nat} {bs : List Nat} {ms : List M} {side : List Int} {lost : Nat} (m : M) (w : World) (h : Nt base w p bs ms side lost) (hm : m.wf) (hb : base ≤ w.heap.size) (hl : ms.length + 1 ≤ 1000000) (hlo : lost + 1 ≤ 1000000) :
    Calls Try.prog 10 #[.pointer (some ⟨p, 0, none⟩), .slice (some ⟨w.heap.size, 0, none⟩) 1 1] (w.alloc (.cells m.cells 36)) fun e w' => e = .returned (.tuple #[]) ∧ (∃ bs', Nt base w' p bs' (ms ++ [m].filter (passB side)) side (lost + lostN side [m])) ∧ Only base [53, 55] w w' := by
  have bA : Below w.heap.size w (w.alloc (.cells m.cells 36)) := (Below.refl _ w).alloc (Nat.le_refl _) _
  refine (send_any (cap := 1) (n := 1) (ls := [m]) _ (h.below bA) (Row.one (heap_alloc_new w _)) rfl (by intro x hx; simp at hx; subst hx; exact hm) (Nat.le_trans hb bA.size) hl hlo).mono ?_
  rintro e w' ⟨rfl, ⟨bs', n', _⟩, o'⟩
  exact ⟨rfl, ⟨bs', n'⟩, (Only.of_below bA hb).trans o'⟩
theorem one_lens (side : List Int) (m : M) : ([m].filter (passB side)).length + lostN side [m] = 1 := filter_count side [m]
theorem lost_one (side : List Int) (m : M) : lostN side [m] = if cutB side m.f m.t = true then 1 else 0 := by
  cases h : cutB side m.f m.t <;> simp [lostN, h]

set_option maxRecDepth 20000 in
set_option maxHeartbeats 4000000 in
theorem cuts_walk (ao : Option Addr) (ns cs : Nat) (ys : List Int) (bo : Option Addr) (np cp : Nat) (ps : List Int) (W : World) (hn : ys.length = ns) (hns : ns ≤ maxLen) (hy : Ints W ao ys) (hyf : ∀ y ∈ ys, (Lit.int .i64 y).wf = true) (hm : ps.length = np) (hnp : np ≤ maxLen) (hp : Ints W bo ps) (hpf : ∀ y ∈ ps, (Lit.int .i64 y).wf = true) :
    Calls Try.prog 5 #[.slice ao ns cs, .slice bo np cp] W fun e w' => e = .returned (.bool true) ∧ Below W.heap.size W w' := by
  have HN := hide hn
  have HY := hide hy
  have HYF := hide hyf
  have HM := hide hm
  have HP := hide hp
  have HPF := hide hpf
  have hns' : ns ≤ 9223372036854775807 := hns
  have hnp' : np ≤ 9223372036854775807 := hnp
  clear hn hy hyf hm hp hpf
  by_cases hbig : 20 < ns
  · have hbig' : (20 : Int) < (ns : Int) := by omega
    go_enter Try.func5, Try.ntmps5
    go_wp2_with fail
    refine (known_any W).mono ?_
    rintro e w0 ⟨rfl, b0⟩
    have B0 := hide b0
    clear b0
    go_wp2
    go_ret
    exact ⟨rfl, unhide B0⟩
  have hbig' : ¬ (20 : Int) < (ns : Int) := by omega
  go_enter Try.func5, Try.ntmps5
  go_wp2_with fail
  refine (known_any W).mono ?_
  rintro e w ⟨rfl, b0⟩
  have B0 := hide b0
  have s0 := b0.size
  clear b0
  go_wp2_with fail
  refine (new_any w).mono ?_
  rintro e w1 ⟨rfl, n1, b1⟩
  have CT := hide (cut_any (cap := cs) (ao := ao) w1 n1 (fun m hm => by simp at hm) (by simp) (by simp) b1.size (unhide HN) (by omega) (unhide HYF) (fun w' ho => (unhide HY).sub ((unhide B0).trans ((b1.trans ho.1).mono s0))))
  have L1 := hide b1
  clear n1 b1
  go_wp2_with fail
  refine (unhide CT).mono ?_
  rintro e w2 ⟨rfl, ⟨bs2, n2⟩, o2⟩
  have N2 : Hid (Nt w.heap.size w2 w.heap.size bs2 [] ys 0) := n2
  have L2 := hide ((unhide L1).trans o2.1)
  clear n2 o2 CT L1
  go_wp2_with fail
  go_loopg [6, 7, 8] 60 (fun gg lv mv iv wr => ∃ (k lost : Nat) (ms : List M) (bs : List Nat), k + gg = 60 ∧ k ≤ np ∧ iv = .int .i64 (k : Int) ∧ mv = .int .i64 (k : Int) ∧ lv = .int .i64 (lost : Int) ∧ lost + ms.length = k ∧ Nt w.heap.size wr w.heap.size bs ms ys lost ∧ Below w.heap.size w wr)
  case atStart => exact ⟨0, 0, [], bs2, by omega, by omega, rfl, rfl, rfl, rfl, unhide N2, unhide L2⟩
  case round =>
    obtain ⟨k, lost, ms, bs, hgk, hkn, rfl, rfl, rfl, hlm, hnt, hlow⟩ := hrel
    have sr := hlow.size
    by_cases hlt : k < np ∧ k < 60
    · obtain ⟨y, hyk⟩ : ∃ y, ps[k]? = some y := ⟨_, List.getElem?_eq_getElem (by rw [unhide HM]; exact hlt.1)⟩
      obtain ⟨a, rfl, ca⟩ := ((unhide HP).sub ((unhide B0).trans (hlow.mono s0))) k y hyk
      have hl1 : k < np := hlt.1
      have hl2 : (k : Int) < 60 := by omega
      obtain ⟨f, hf⟩ : ∃ f : Nat, y % 6 = (f : Int) := ⟨(y % 6).toNat, by have := Int.emod_nonneg y (show (6 : Int) ≠ 0 by decide); omega⟩
      have hf6 : f < 6 := by have := Int.emod_lt_of_pos y (show (0 : Int) < 6 by decide); omega
      have WF := hide (fun w => show Calls Try.prog 9 #[.int .i64 y, .int .i64 6] w fun ev w' => ev = .returned (.int .i64 (f : Int)) ∧ w' = w by rw [← hf]; exact within_any y 6 w (by decide) (by decide))
      have HG := hide hgk
      have HLM := hide hlm
      have HNT := hide hnt
      have HL := hide hlow
      clear hgk hlm hnt hlow hyk hf hlt N2 L2
      go_upto_region 11 with fail
      go_quiet (first
        | (go_at_call_of 9 (Value.int .i64 y); exact Calls.quiet_of_same (unhide WF _))
        | (go_at_call 9; exact Calls.quiet_of_same (within_any _ 6 _ (by decide) (by decide))))
      obtain ⟨t, ht⟩ : ∃ t : Nat, wrap64 (y.tdiv 6) % 6 = (t : Int) := ⟨(wrap64 (y.tdiv 6) % 6).toNat, by have := Int.emod_nonneg (wrap64 (y.tdiv 6)) (show (6 : Int) ≠ 0 by decide); omega⟩
      have ht6 : t < 6 := by have := Int.emod_lt_of_pos (wrap64 (y.tdiv 6)) (show (0 : Int) < 6 by decide); omega
      rw [ht]
      have SD := hide (send_one ⟨(f : Int), (t : Int), 1, 0⟩ (wr.drewN nq) ((unhide HNT).below (drewN_below wr nq)) ⟨wf_small (by omega), wf_small (by omega)⟩ sr (by have := unhide HLM; omega) (by have := unhide HLM; omega))
      clear ca WF ht
      go_wp2_with fail
      rw [show (wr.drewN nq).alloc (.cells #[.int .i64 (f : Int), .int .i64 (t : Int), .int .i64 0, .int .i64 1, .int .i64 0, .int .i64 0, .int .i64 0, .int .i64 0, .bool false, .slice none 0 0, .slice none 0 0, .slice none 0 0, .slice none 0 0] 36) = (wr.drewN nq).alloc (.cells (M.mk (f : Int) (t : Int) 1 0).cells 36) from rfl]
      refine (unhide SD).mono ?_
      rintro e w3 ⟨rfl, ⟨bs3, n3⟩, o3⟩
      have l4 := ((unhide HL).trans ((drewN_below wr nq).mono sr)).trans o3.1
      have LC := lcut_any (cap := cs) true (f : Int) (t : Int) w3 (unhide HN) (by omega) ((unhide HY).sub ((unhide B0).trans (l4.mono s0)))
      rw [Bool.true_and] at LC
      have L4 := hide l4
      clear o3 l4 SD HNT
      by_cases hcut : cutB ys (f : Int) (t : Int) = true
      · skip
        have n4 : Nt w.heap.size w3 w.heap.size bs3 (ms) ys (lost + 1) := by
          have h3 := n3
          simp only [List.filter_cons, List.filter_nil, passB, lostN, hcut] at h3
          simpa using h3
        rw [hcut] at LC
        have hmn : (lost + 1) + (ms).length = k + 1 := by have := unhide HLM; (try simp); omega
        have hms : (ms).length ≤ k + 1 := by omega
        obtain ⟨m4, hm4⟩ : ∃ m4, ms = m4 := ⟨_, rfl⟩
        rw [hm4] at n4 hmn hms
        have N4 := hide n4
        have HC := hide LC
        clear n3 n4 hcut LC hm4
        go_wp2_with fail
        refine (unhide HC).mono ?_
        rintro e w4 ⟨rfl, b4⟩
        have N5 := hide ((unhide N4).below b4)
        have L5 := hide ((unhide L4).trans (b4.mono (unhide L4).size))
        have LST := hide (lost_any w4 (unhide N5))
        have LEN := hide (len_any w4 (unhide N5))
        clear b4 N4 L4 HC
        have e5 : (k : Int) + 1 - ((lost : Int) + 1) = (m4.length : Int) := by omega
        go_wp2_with fail
        refine (unhide LST).mono ?_
        rintro e w5 ⟨rfl, rfl⟩
        go_wp2_with fail
        refine (unhide LEN).mono ?_
        rintro e w6 ⟨rfl, rfl⟩
        go_wp2
        go_roundg (60 - (k + 1))
        case measure => have := unhide HG; omega
        case rel => exact ⟨k + 1, lost + 1, m4, bs3, by omega, by omega, by go_num, by go_num, by go_num, hmn, unhide N5, unhide L5⟩
      · rw [Bool.not_eq_true] at hcut
        have n4 : Nt w.heap.size w3 w.heap.size bs3 (ms ++ [M.mk (f : Int) (t : Int) 1 0]) ys (lost) := by
          have h3 := n3
          simp only [List.filter_cons, List.filter_nil, passB, lostN, hcut] at h3
          simpa using h3
        rw [hcut] at LC
        have hmn : (lost) + (ms ++ [M.mk (f : Int) (t : Int) 1 0]).length = k + 1 := by have := unhide HLM; (try simp); omega
        have hms : (ms ++ [M.mk (f : Int) (t : Int) 1 0]).length ≤ k + 1 := by omega
        obtain ⟨m4, hm4⟩ : ∃ m4, ms ++ [M.mk (f : Int) (t : Int) 1 0] = m4 := ⟨_, rfl⟩
        rw [hm4] at n4 hmn hms
        have N4 := hide n4
        have HC := hide LC
        clear n3 n4 hcut LC hm4
        go_wp2_with fail
        refine (unhide HC).mono ?_
        rintro e w4 ⟨rfl, b4⟩
        have N5 := hide ((unhide N4).below b4)
        have L5 := hide ((unhide L4).trans (b4.mono (unhide L4).size))
        have LST := hide (lost_any w4 (unhide N5))
        have LEN := hide (len_any w4 (unhide N5))
        clear b4 N4 L4 HC
        have e5 : (k : Int) + 1 - ((lost : Int)) = (m4.length : Int) := by omega
        go_wp2_with fail
        refine (unhide LST).mono ?_
        rintro e w5 ⟨rfl, rfl⟩
        go_wp2_with fail
        refine (unhide LEN).mono ?_
        rintro e w6 ⟨rfl, rfl⟩
        go_wp2
        go_roundg (60 - (k + 1))
        case measure => have := unhide HG; omega
        case rel => exact ⟨k + 1, lost, m4, bs3, by omega, by omega, by go_num, by go_num, by go_num, hmn, unhide N5, unhide L5⟩
    · have hd : decide (k < np ∧ k < 60) = false := decide_eq_false hlt
      have HLW := hide hlow
      have HL0 := hide (heal_any wr hnt)
      have HLM := hide hlm
      have hk60 : k ≤ 60 := by omega
      have hcase : ¬ (k : Int) < (np : Int) ∨ ((k : Int) < (np : Int) ∧ ¬ (k : Int) < 60) := by omega
      clear hnt hlow hgk hlm N2 L2 hd hlt
      rcases hcase with hc1 | ⟨hc1, hc2⟩ <;> (
        go_wp2_with fail
        refine (unhide HL0).mono ?_
        rintro e w3 ⟨rfl, n3, o3⟩
        obtain ⟨W3, hW3⟩ : ∃ W3, w3.alloc (.cells ((M.mk 0 1 1 0).cells ++ (M.mk 1 0 1 0).cells) 36) = W3 := ⟨_, rfl⟩
        have bW : Below w3.heap.size w3 W3 := by rw [← hW3]; exact (Below.refl _ w3).alloc (Nat.le_refl _) _
        have xW : W3.heap[w3.heap.size]? = some (.cells ((M.mk 0 1 1 0).cells ++ (M.mk 1 0 1 0).cells) 36 (0, 0)) := by rw [← hW3]; exact heap_alloc_new _ _
        have s3 := Nat.le_trans sr o3.size
        have SD := send_any (cap := 2) (n := 2) W3 (n3.below bW) (Row.two xW) rfl (by intro m hm; simp at hm; rcases hm with rfl | rfl <;> exact ⟨rfl, rfl⟩) (Nat.le_trans s3 bW.size) (by have := unhide HLM; omega) (by have := unhide HLM; omega)
        rw [filter_none, lost_none, Nat.add_zero] at SD
        have HSD := hide SD
        have L3 := hide (((unhide HLW).trans o3.1).trans (bW.mono s3))
        have HW3 := hide hW3
        clear SD n3 o3 bW xW hW3 HL0
        go_wp2_with fail
        rw [show w3.alloc (.cells #[.int .i64 0, .int .i64 1, .int .i64 0, .int .i64 1, .int .i64 0, .int .i64 0, .int .i64 0, .int .i64 0, .bool false, .slice none 0 0, .slice none 0 0, .slice none 0 0, .slice none 0 0, .int .i64 1, .int .i64 0, .int .i64 0, .int .i64 1, .int .i64 0, .int .i64 0, .int .i64 0, .int .i64 0, .bool false, .slice none 0 0, .slice none 0 0, .slice none 0 0, .slice none 0 0] 36) = W3 by rw [← unhide HW3]; rfl]
        refine (unhide HSD).mono ?_
        rintro e w4 ⟨rfl, ⟨bs4, n4, _⟩, o4⟩
        obtain ⟨m4, hm4⟩ : ∃ m4, ms ++ [M.mk 0 1 1 0, M.mk 1 0 1 0] = m4 := ⟨_, rfl⟩
        have hl4 : m4.length = ms.length + 2 := by rw [← hm4]; simp
        rw [hm4] at n4
        have e5 : (k : Int) - (lost : Int) + 2 = (m4.length : Int) := by have := unhide HLM; omega
        have e6 : m4.length ≤ 100 := by have := unhide HLM; omega
        have e7 : lost ≤ 60 := by have := unhide HLM; omega
        have e8 : lost ≤ k := by have := unhide HLM; omega
        have LST := hide (lost_any w4 n4)
        have LEN := hide (len_any w4 n4)
        have L4 := hide ((unhide L3).trans o4.1)
        clear n4 o4 hm4 hl4 HSD HW3
        go_wp2_with fail
        refine (unhide LST).mono ?_
        rintro e w5 ⟨rfl, rfl⟩
        go_wp2_with fail
        refine (unhide LEN).mono ?_
        rintro e w6 ⟨rfl, rfl⟩
        go_wp2
        go_ret
        exact ⟨rfl, (unhide B0).trans ((unhide L4).mono s0)⟩)
end Go.Proofs.Ytnplhoekkoomiaa

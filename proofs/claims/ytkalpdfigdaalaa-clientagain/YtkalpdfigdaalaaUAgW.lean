/- ClientAgain: the walk. -/
import Derived.Test.YtkalpdfigdaalaaUEsA
import Derived.Test.YtkalpdfigdaalaaUSame
import Derived.Deep.DeepCutAuto
namespace Go.Proofs.Ytkalpdfigdaalaa
open Go.RowKit Go.Maps
attribute [local go_sem ↓] Go.wp_at_zero Go.wp_at_succ

/-- what the first loop keeps. -/
structure AgI (w0 wr : World) (p q : Nat) (ls : List En) (k : Nat) : Prop where
  own : Own w0 (fun _ => False) wr p q (putAll [] (ls.take k))
  few : ∀ (i : Nat) (e : En), ls[i]? = some e → i < k → e.ms.length ≤ 1000000
  size : w0.heap.size ≤ wr.heap.size
set_option maxRecDepth 20000 in
set_option maxHeartbeats 8000000 in
theorem again_walk (ao : Option Addr) (n cap : Nat) (ls : List En) (hn : ls.length = n) (w : World) (h : EsA w ao ls) : Calls Try.prog 5 #[.slice ao n cap] w fun e w' => e = .returned (.bool true) ∧ Below w.heap.size w w' := by
  have C0 := hide (known_any w)
  have HI := hide h
  have HN := hide hn
  clear h hn
  go_enter Try.func5, Try.ntmps5
  go_wp2_with fail
  refine (unhide C0).mono ?_
  rintro e w1 ⟨rfl, b1⟩
  have C1 := hide (new_any w1)
  have B1 := hide b1
  clear b1 C0
  by_cases h60 : n > 60
  · have q0 : (n : Int) > 60 := by omega
    go_wp2_with fail
    go_ret
    exact ⟨rfl, unhide B1⟩
  · have q0 : ¬ (n : Int) > 60 := by omega
    go_wp2_with fail
    refine (unhide C1).mono ?_
    rintro x w2 ⟨p, q, rfl, h2, b2⟩
    have A0 : Hid (AgI w1 w2 p q ls 0) := hide ⟨⟨_, h2, fun k hk => ⟨hk.1, fun x => x⟩⟩, fun i e _ hi => absurd hi (Nat.not_lt_zero _), b2.size⟩
    have B2 := hide (below_far (unhide B1) b2)
    clear h2 b2 C1
    go_wp2_with fail
    go_loopw [4, 2] (fun i _ wr => ∃ j : Nat, i = .int .i64 j ∧ j ≤ n ∧ AgI w1 wr p q ls j ∧ Below w.heap.size w wr) (fun i _ _ => n - (intOf i).toNat)
    case atStart => exact ⟨0, rfl, by omega, unhide A0, unhide B2⟩
    case round =>
      obtain ⟨j, rfl, hj, ha, hb⟩ := hrel
      have AI := hide ha
      have HB := hide hb
      clear ha hb
      by_cases h1 : j < n
      · obtain ⟨g, hg⟩ : ∃ g, ls[j]? = some g := ⟨_, List.getElem?_eq_getElem (by rw [unhide HN]; exact h1)⟩
        obtain ⟨b, off, mo, mc, rfl, c0, c1, c2, c3, c4, c5, hms, hl1, -, hwf⟩ := ((unhide HI).below (unhide HB)).at hg
        obtain ⟨m, hm⟩ : ∃ m, g.ms.length = m := ⟨_, rfl⟩
        rw [hm] at c4 hl1
        have CF := few_any g mo m mc hm wr
        have q1 : (j : Int) < (n : Int) := by omega
        have HG := hide hg
        have HM := hide hm
        have HMS := hide hms
        have HWF := hide hwf
        clear hg hms hwf hm
        by_cases hf : fewE g
        · rw [decide_eq_true hf] at CF
          have CF' := hide CF
          have HF := hide hf
          clear CF hf
          go_wp2_with fail
          refine (unhide CF').mono ?_
          rintro e w3 ⟨rfl, b3⟩
          have B3 := hide b3
          have hms3 := (unhide HMS).below b3
          have d0 := (b3.cell (blk_lt c0)).trans c0
          have d1 := (b3.cell (blk_lt c1)).trans c1
          have d2 := (b3.cell (blk_lt c2)).trans c2
          have d3 := (b3.cell (blk_lt c3)).trans c3
          have d4 := (b3.cell (blk_lt c4)).trans c4
          have d5 := (b3.cell (blk_lt c5)).trans c5
          have hm50 := (unhide HF).2
          rw [unhide HM] at hm50
          have CP := hide (own_put (w := w3) ((unhide AI).own.below b3) (Nat.le_trans (unhide AI).size b3.size) (fun x hx => hx.elim) (Nat.le_trans (putAll_len _ _) (by simp; omega)) (putAll_rise Rise.nil _) g mo m mc (unhide HM) (by omega) hms3 (unhide HWF))
          clear b3 hms3 c0 c1 c2 c3 c4 c5 CF'
          go_wp2_with fail
          refine (unhide CP).mono ?_
          rintro e w4 ⟨rfl, o4, b4, -⟩
          have A4 : Hid (AgI w1 w4 p q ls (j + 1)) := hide ⟨by rw [putAll_take (unhide HG)]; exact o4, fun i e he hi => by
            by_cases hij : i < j
            · exact (unhide AI).few i e he hij
            · obtain rfl : i = j := by omega
              rw [unhide HG] at he; cases he
              rw [unhide HM]; omega, Nat.le_trans (Nat.le_trans (unhide AI).size (unhide B3).size) b4.size⟩
          have B4 := hide ((unhide HB).trans (((unhide B3).mono (unhide HB).size).trans (b4.mono (unhide B1).size)))
          clear o4 b4 d0 d1 d2 d3 d4 d5 CP
          go_wp2_with fail
          go_roundw
          case rel => exact ⟨j + 1, by go_num, by omega, unhide A4, unhide B4⟩
          case measure => simp [intOf]; omega
        · rw [decide_eq_false hf] at CF
          have CF' := hide CF
          clear CF hf
          go_wp2_with fail
          refine (unhide CF').mono ?_
          rintro e w3 ⟨rfl, b3⟩
          have B3 := hide ((unhide HB).trans (b3.mono (unhide HB).size))
          clear b3
          go_wp2_with fail
          go_ret
          exact ⟨rfl, unhide B3⟩
      · have q1 : ¬ (j : Int) < (n : Int) := by omega
        obtain rfl : j = n := by omega
        obtain ⟨wo, hwo⟩ : ∃ wo, wo = wr := ⟨_, rfl⟩
        subst hwo
        obtain ⟨es, hes⟩ : ∃ es, putAll [] ls = es := ⟨_, rfl⟩
        have O2 := (unhide AI).own
        rw [List.take_of_length_le (by rw [unhide HN]; exact Nat.le_refl _), hes] at O2
        have hr : Rise es := by rw [← hes]; exact putAll_rise Rise.nil _
        have hl : es.length ≤ 60 := by rw [← hes]; exact Nat.le_trans (putAll_len _ _) (by simp; rw [unhide HN]; omega)
        have hno : ∀ e ∈ ls, ¬ mayPut es e := by rw [← hes]; exact putAll_again Rise.nil ls
        obtain ⟨L, hL⟩ : ∃ L, es.length = L := ⟨_, rfl⟩
        have CA := hide (own_all O2 hL (by omega))
        have HO := hide O2
        have HR := hide hr
        have HL := hide (And.intro hl hL)
        have HNO := hide hno
        clear O2 hes hr hl hno hL
        go_wp2_with fail
        refine (unhide CA).mono ?_
        rintro e w4 ⟨b, rfl, er, b4⟩
        have ER := hide er
        have O4 := hide ((unhide HO).below b4)
        have B4 := hide ((unhide HB).trans (b4.mono (unhide HB).size))
        clear er b4 CA
        go_wp2_with fail
        go_loopw [6, 7, 8, 2] (fun i _ _ _ wr => ∃ k : Nat, i = .int .i64 k ∧ k ≤ j ∧ Below w4.heap.size w4 wr) (fun i _ _ _ _ => j - (intOf i).toNat)
        case atStart => exact ⟨0, rfl, Nat.zero_le _, Below.refl _ _⟩
        case round =>
          obtain ⟨k, rfl, hk, hbk⟩ := hrel
          have HBK := hide hbk
          clear hbk
          by_cases h2 : k < j
          · obtain ⟨g, hg⟩ : ∃ g, ls[k]? = some g := ⟨_, List.getElem?_eq_getElem (by rw [unhide HN]; exact h2)⟩
            obtain ⟨b', off, mo, mc, rfl, c0, c1, c2, c3, c4, c5, hms, hl1, -, hwf⟩ := ((unhide HI).below ((unhide B4).trans ((unhide HBK).mono (unhide B4).size))).at hg
            obtain ⟨m, hm⟩ : ∃ m, g.ms.length = m := ⟨_, rfl⟩
            rw [hm] at c4 hl1
            have CN := hide (own_no ((unhide O4).below (unhide HBK)) (by have := (unhide HL).1; omega) (unhide HR) g mo m mc hwf (unhide HNO g (List.mem_of_getElem? hg)))
            have q2 : (k : Int) < (j : Int) := by omega
            clear hg hms hwf hm
            go_wp2_with fail
            refine (unhide CN).mono ?_
            rintro e w5 ⟨rfl, b5⟩
            have B5 := hide (below_far (unhide HBK) b5)
            clear b5 c0 c1 c2 c3 c4 c5
            go_wp2_with fail
            go_roundw
            case rel => exact ⟨k + 1, by go_num, by omega, unhide B5⟩
            case measure => simp [intOf]; omega
          · have q2 : ¬ (k : Int) < (j : Int) := by omega
            have CA := hide (own_all ((unhide O4).below (unhide HBK)) (unhide HL).2 (by have := unhide HL; omega))
            have CS := hide (fun (b2 : Nat) (Z : World) (er2 : ERow (fun k => wr.heap.size ≤ k ∧ k < Z.heap.size) Z (.slice (some ⟨b2, 0, none⟩) L L) es) (hb : Below wr.heap.size wr Z) => rsames_eq es L (unhide HL).2 (by have := unhide HL; omega) _ _ L L Z ((unhide ER).esR.below (below_far (unhide HBK) hb)) er2.esR)
            go_wp2_with fail
            refine (unhide CA).mono ?_
            rintro e w5 ⟨b5, rfl, er5, k5⟩
            have CS' := hide (unhide CS b5 w5 er5 k5)
            have B5 := hide ((unhide B4).trans ((below_far (unhide HBK) k5).mono (unhide B4).size))
            clear er5 k5 CS CA
            go_wp2_with fail
            refine (unhide CS').mono ?_
            rintro e w6 ⟨rfl, b6⟩
            have B6 := hide ((unhide B5).trans (b6.mono (unhide B5).size))
            clear b6
            go_wp2_with fail
            go_ret
            exact ⟨rfl, unhide B6⟩
end Go.Proofs.Ytkalpdfigdaalaa

/- hist: barred: a contract. -/
import Derived.Test.YtmgdkbpbmngibaaHClimb
namespace Go.Proofs.Ytmgdkbpbmngibaa
open Go.RowKit Go.Maps

/-- why so many entries of these terms may not be put behind an index. -/
def putNo (b : Int) (rs : List Rw) (i t : Int) (ts : List Int) (n : Nat) : Nat :=
  if ts.length = n then (if climbsOf t ts = true then (if i < b then 1 else if b + (rs.length : Int) < i then 2 else if b < i ∧ termOf b rs i ≠ t then 2 else if i + (n : Int) ≤ 64 then 0 else 14) else 1) else 1

set_option maxHeartbeats 2000000 in
theorem hbarred_any {D : Nat → Prop} {w : World} {p : Nat} {b : Int} {rs : List Rw} (h : Hs D w p b rs) (hf : Fit b rs) (i t : Int) (ao : Option Addr) (m cap : Nat) (ts : List Int) (hm : ts.length = m) (hl : m ≤ 1000000) (n : Nat) (hn : n ≤ 1000000) (hts : IntsR w ao ts) :
    Calls Try.prog 40 #[.pointer (some ⟨p, 0, none⟩), .int .i64 i, .int .i64 t, .slice ao m cap, .int .i64 (n : Int)] w fun e w' => e = .returned (.int .i64 ((putNo b rs i t ts n : Nat) : Int)) ∧ Below w.heap.size w w' := by
  obtain ⟨R, hR⟩ : ∃ R, putNo b rs i t ts n = R := ⟨_, rfl⟩
  rw [hR]
  unfold putNo at hR
  rw [hm] at hR
  have hb0 := hf.b0
  have CL := hide (hclimbs_any t ao m cap ts hm hl w hts)
  have LA := hide (fun Y (hY : Below w.heap.size w Y) => last_any (h.below hY) hf)
  have TE := hide (fun Y (hY : Below w.heap.size w Y) => term_any (h.below hY) hf i)
  obtain ⟨⟨rv, hbx, _⟩, _, _⟩ := h
  have HX := hide hbx
  obtain ⟨L, hL⟩ : ∃ L, b + (rs.length : Int) = L := ⟨_, rfl⟩
  obtain ⟨q, hq⟩ : ∃ q, termOf b rs i = q := ⟨_, rfl⟩
  obtain ⟨c, hc⟩ : ∃ c, climbsOf t ts = c := ⟨_, rfl⟩
  rw [hL] at LA hR
  rw [hq] at TE hR
  rw [hc] at CL hR
  have HR := hide hR
  clear hR hL hq hc hbx hts hm hf
  by_cases h1 : m = n
  · subst h1
    have r1 := unhide HR
    rw [if_pos rfl] at r1
    have HR1 := hide r1
    clear r1 HR
    cases c
    · obtain rfl : 1 = R := by have := unhide HR1; simpa using this
      clear HR1
      go_enter Try.func40, Try.ntmps40
      go_wp2_with fail
      refine (unhide CL).mono ?_
      rintro e w1 ⟨rfl, b1⟩
      have B1 := hide b1
      clear b1 CL
      go_wp2
      go_ret
      exact ⟨rfl, unhide B1⟩
    · have r1 := unhide HR1
      rw [if_pos rfl] at r1
      have HR2 := hide r1
      clear r1 HR1
      go_enter Try.func40, Try.ntmps40
      go_wp2_with fail
      refine (unhide CL).mono ?_
      rintro e w1 ⟨rfl, b1⟩
      have B1 := hide b1
      have x1 := Below.stay b1 (unhide HX)
      have X1 := hide x1
      have c0 : w1.cell? ⟨p, 0, none⟩ = some (.int .i64 b) := (cell_of_block x1).trans rfl
      have L1 := hide (unhide LA _ b1)
      clear b1 CL LA x1
      by_cases h2 : i < b
      · obtain rfl : 1 = R := by have := unhide HR2; rwa [if_pos h2] at this
        clear HR2
        go_wp2
        go_ret
        exact ⟨rfl, unhide B1⟩
      · have r1 := unhide HR2
        rw [if_neg h2] at r1
        have HR3 := hide r1
        clear r1 HR2
        go_wp2_with fail
        refine (unhide L1).mono ?_
        rintro e w2 ⟨rfl, b2⟩
        have B2 := hide (below_far (unhide B1) b2)
        have x2 := Below.stay b2 (unhide X1)
        have c2 : w2.cell? ⟨p, 0, none⟩ = some (.int .i64 b) := (cell_of_block x2).trans rfl
        have T2 := hide (unhide TE _ (unhide B2))
        clear b2 L1 TE x2 c0 X1
        by_cases h3 : L < i
        · obtain rfl : 2 = R := by have := unhide HR3; rwa [if_pos h3] at this
          clear HR3
          go_wp2
          go_ret
          exact ⟨rfl, unhide B2⟩
        · have r1 := unhide HR3
          rw [if_neg h3] at r1
          have HR4 := hide r1
          clear r1 HR3
          have d3 : decide (L < i) = false := decide_eq_false h3
          clear h3
          by_cases h4 : b < i
          · go_wp2_with fail
            refine (unhide T2).mono ?_
            rintro e w3 ⟨rfl, b3⟩
            have B3 := hide (below_far (unhide B2) b3)
            clear b3 T2
            by_cases h5 : q = t
            · subst h5
              have r1 := unhide HR4
              rw [if_neg (fun x => x.2 (by simp))] at r1
              have HR5 := hide r1
              clear r1 HR4
              have FI := hide (fits_any i m (by omega) hl w3)
              go_wp2_with fail
              refine (unhide FI).mono ?_
              rintro e w4 ⟨rfl, hw⟩
              replace hw := hw.symm
              subst hw
              clear FI
              by_cases h6 : i + (m : Int) ≤ 64
              · obtain rfl : 0 = R := by have := unhide HR5; rwa [if_pos h6] at this
                clear HR5
                have d6 : decide (i + (m : Int) ≤ 64) = true := decide_eq_true h6
                clear h6
                go_wp2
                go_ret
                exact ⟨rfl, unhide B3⟩
              · obtain rfl : 14 = R := by have := unhide HR5; rwa [if_neg h6] at this
                clear HR5
                have d6 : decide (i + (m : Int) ≤ 64) = false := decide_eq_false h6
                clear h6
                go_wp2
                go_ret
                exact ⟨rfl, unhide B3⟩
            · obtain rfl : 2 = R := by have := unhide HR4; rwa [if_pos ⟨h4, h5⟩] at this
              have d5 : (q != t) = true := by rw [bne_iff_ne]; exact h5
              clear HR4 h5
              go_wp2
              go_ret
              exact ⟨rfl, unhide B3⟩
          · have r1 := unhide HR4
            rw [if_neg (fun x => h4 x.1)] at r1
            have HR5 := hide r1
            clear r1 HR4 T2
            have FI := hide (fits_any i m (by omega) hl w2)
            have d4 : decide (b < i) = false := decide_eq_false h4
            clear h4
            go_wp2_with fail
            refine (unhide FI).mono ?_
            rintro e w4 ⟨rfl, hw⟩
            replace hw := hw.symm
            subst hw
            clear FI
            by_cases h6 : i + (m : Int) ≤ 64
            · obtain rfl : 0 = R := by have := unhide HR5; rwa [if_pos h6] at this
              clear HR5
              have d6 : decide (i + (m : Int) ≤ 64) = true := decide_eq_true h6
              clear h6
              go_wp2
              go_ret
              exact ⟨rfl, unhide B2⟩
            · obtain rfl : 14 = R := by have := unhide HR5; rwa [if_neg h6] at this
              clear HR5
              have d6 : decide (i + (m : Int) ≤ 64) = false := decide_eq_false h6
              clear h6
              go_wp2
              go_ret
              exact ⟨rfl, unhide B2⟩
  · obtain rfl : 1 = R := by have := unhide HR; rwa [if_neg h1] at this
    have hne : ((m : Int) != (n : Int)) = true := by rw [bne_iff_ne]; omega
    clear HR h1
    go_enter Try.func40, Try.ntmps40
    go_wp2
    go_ret
    exact ⟨rfl, Below.refl _ _⟩
end Go.Proofs.Ytmgdkbpbmngibaa

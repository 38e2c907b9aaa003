/- conf.barred, Enter, Leave: contracts. -/
import Derived.Test.YthebgkkdkhlbbaaKCheck
import Derived.Test.YthebgkkdkhlbbaaKTwin
import Derived.Test.YthebgkkdkhlbbaaHBase
namespace Go.Proofs.Ythebgkkdkhlbbaa
open Go.RowKit

/-- why a configuration may not enter the joint one to these members. -/
def barredOf (old new to' : List Int) : Nat := if old ≠ [] then 15 else if checkOf [] to' = 0 then (if to' = new then 7 else 0) else checkOf [] to'
theorem barred_joint {old new to' : List Int} {no : Nat} (h : old.length = no) (h0 : decide (0 < no) = true) : barredOf old new to' = 15 := by
  unfold barredOf
  rw [if_pos]
  intro e; subst e; simp at h; subst h; simp at h0
theorem barred_plain {old new to' : List Int} {no : Nat} (h : old.length = no) (h0 : decide (0 < no) = false) : barredOf old new to' = if checkOf [] to' = 0 then (if to' = new then 7 else 0) else checkOf [] to' := by
  unfold barredOf
  rw [if_neg]
  intro e
  have : old.length ≠ 0 := fun z => e (List.eq_nil_of_length_eq_zero z)
  simp at h0; omega

set_option maxHeartbeats 1000000 in
theorem barred_any (ao an ab : Option Addr) (no nn nt co cn ct : Nat) (old new to' : List Int) (hno : old.length = no) (hnn : new.length = nn) (hnt : to'.length = nt) (_hlo : no ≤ 1000000) (_hln : nn ≤ 1000000) (hlt : nt ≤ 1000000) (w : World) (hw : IntsR w an new) (ht : IntsR w ab to') :
    Calls Try.prog 63 #[.agg #[.slice ao no co, .slice an nn cn], .slice ab nt ct] w fun e w' => e = .returned (.int .i64 ((barredOf old new to' : Nat) : Int)) ∧ Below w.heap.size w w' := by
  obtain ⟨W, hW, bW, xW, _⟩ := boxed w (.slice ao no co) (.slice an nn cn)
  have JO := hide (joint_any (.slice ao no co) (.slice an nn cn) ao no co rfl W)
  have CH := hide (fun (Y : World) (h : Below W.heap.size W Y) => check_any none ab 0 nt 0 ct [] to' rfl hnt (by decide) (by omega) Y (IntsR.nil _ _) ((ht.below bW).below h))
  have EQ := hide (fun (Y : World) (h : Below W.heap.size W Y) => equal_any ab an nt nn ct cn to' new hnt hnn (by omega) Y ((ht.below bW).below h) ((hw.below bW).below h))
  obtain ⟨R, hR⟩ : ∃ R, barredOf old new to' = R := ⟨_, rfl⟩
  rw [hR]
  obtain ⟨j, hj⟩ : ∃ j, decide (0 < no) = j := ⟨_, rfl⟩
  obtain ⟨r, hr⟩ : ∃ r, checkOf [] to' = r := ⟨_, rfl⟩
  obtain ⟨q, hq⟩ : ∃ q, decide (to' = new) = q := ⟨_, rfl⟩
  have HJ : Hid (j = true → 15 = R) := fun h => by rw [← hR, barred_joint hno (hj.trans h)]
  have HP : Hid (j = false → (if r = 0 then (if q = true then 7 else 0) else r) = R) := fun h => by
    rw [← hR, barred_plain hno (hj.trans h), hr, ← hq]; simp
  rw [hj] at JO
  rw [hr] at CH
  rw [hq] at EQ
  have HW := hide hW
  have BW := hide bW
  have XW := hide xW
  clear hW bW xW hR hr hj hq ht hw hno hnn hnt
  go_enter Try.func63, Try.ntmps63
  go_wp2_with fail
  rw [unhide HW]
  refine (unhide JO).mono ?_
  rintro e w1 ⟨rfl, b1⟩
  have B1 := hide ((unhide BW).trans (b1.mono (unhide BW).size))
  have CB := hide b1
  have C1 := hide (unhide CH _ b1)
  clear b1 JO CH HW
  cases j
  · have HR := hide (unhide HP rfl)
    clear HJ HP
    go_wp2_with fail
    refine (unhide C1).mono ?_
    rintro e w2 ⟨rfl, b2⟩
    have B2 := hide ((unhide B1).trans (b2.mono (unhide B1).size))
    have CB2 := (unhide CB).trans (b2.mono (unhide CB).size)
    have E2 := hide (unhide EQ _ CB2)
    obtain ⟨c0, c1⟩ := two_cells (Below.stay CB2 (unhide XW))
    clear b2 C1 EQ CB2 CB
    by_cases hz : r = 0
    · have HR2 := unhide HR
      rw [if_pos hz] at HR2
      have HR3 := hide HR2
      subst hz
      clear HR HR2
      go_wp2_with fail
      refine (unhide E2).mono ?_
      rintro e w3 ⟨rfl, b3⟩
      have B3 := hide ((unhide B2).trans (b3.mono (unhide B2).size))
      clear b3 E2
      cases q
      · obtain rfl : 0 = R := unhide HR3
        clear HR3
        go_wp2
        go_ret
        exact ⟨rfl, unhide B3⟩
      · obtain rfl : 7 = R := unhide HR3
        clear HR3
        go_wp2
        go_ret
        exact ⟨rfl, unhide B3⟩
    · have hz' : ((r : Int) != 0) = true := by rw [bne_iff_ne]; omega
      obtain rfl : r = R := by
        have := unhide HR
        rw [if_neg hz] at this; exact this
      clear HR hz
      go_wp2
      go_ret
      exact ⟨rfl, unhide B2⟩
  · obtain rfl := unhide HJ rfl
    clear HJ HP
    go_wp2
    go_ret
    exact ⟨rfl, unhide B1⟩
end Go.Proofs.Ythebgkkdkhlbbaa

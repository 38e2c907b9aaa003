/- The reference's Quorum: a contract. -/
import Derived.Test.YtjcidihcmbenhaaKRef
namespace Go.Proofs.Ytjcidihcmbenhaa
open Go.RowKit

set_option maxHeartbeats 2000000 in
theorem rquorum_any (ao an : Option Addr) (no nn co cn : Nat) (old new : List Int) (hno : old.length = no) (hnn : new.length = nn) (ay : Option Addr) (m d : Nat) (ys : List Int) (hm : ys.length = m) (hlo : no ≤ 1000000) (hln : nn ≤ 1000000) (hlm : m ≤ 1000000) (w : World) (ho : IntsR w ao old) (hw : IntsR w an new) (hy : IntsR w ay ys) :
    Calls Try.prog 12 #[.agg #[.slice ao no co, .slice an nn cn], .slice ay m d] w fun e w' => e = .returned (.bool (quorumOf old new ys)) ∧ Below w.heap.size w w' := by
  obtain ⟨R, hR⟩ : ∃ R, quorumOf old new ys = R := ⟨_, rfl⟩
  obtain ⟨r, hr⟩ : ∃ r, half new ys = r := ⟨_, rfl⟩
  obtain ⟨r2, hr2⟩ : ∃ r2, half old ys = r2 := ⟨_, rfl⟩
  have HR : Hid ((r && (!decide (0 < no) || r2)) = R) := by
    show _ = _
    rw [← hR, ← hr, ← hr2]; unfold quorumOf; rw [empty_len hno]
  rw [hR]
  obtain ⟨W, hW, bW, xW, -⟩ := boxed w (.slice ao no co) (.slice an nn cn)
  have M1 := hide (half_any an nn cn new hnn hln ay m d ys hm hlm W (hw.below bW) (hy.below bW))
  rw [hr] at M1
  have M2 := hide (fun (Y : World) (h : Below W.heap.size W Y) => half_any ao no co old hno hlo ay m d ys hm hlm Y ((ho.below bW).below h) ((hy.below bW).below h))
  rw [hr2] at M2
  have HW := hide hW
  have BW := hide bW
  have XW := hide xW
  clear hR hr hr2 hW bW xW ho hw hy hno hnn hm
  go_enter Try.func12, Try.ntmps12
  go_wp2_with fail
  rw [unhide HW]
  refine (unhide M1).mono ?_
  rintro e w1 ⟨rfl, b1⟩
  have E1 := hide b1
  have B1 := hide ((unhide BW).trans (b1.mono (unhide BW).size))
  obtain ⟨c0, c1⟩ := two_cells (Below.stay b1 (unhide XW))
  have JO := hide (rjoint_any (.slice ao no co) (.slice an nn cn) ao no co rfl w1)
  clear b1 M1 HW
  cases r
  · obtain rfl : false = R := unhide HR
    go_wp2
    go_ret
    exact ⟨rfl, unhide B1⟩
  · go_wp2_with fail
    refine (unhide JO).mono ?_
    rintro e w2 ⟨rfl, b2⟩
    have b12 := (unhide E1).trans (b2.mono (unhide E1).size)
    have B2 := hide ((unhide B1).trans (b2.mono (unhide B1).size))
    obtain ⟨d0, d1⟩ := two_cells (Below.stay b12 (unhide XW))
    have M3 := hide (unhide M2 _ b12)
    clear b2 b12 JO c0 c1 M2
    by_cases h0 : 0 < no
    · have e0 : decide (0 < no) = true := decide_eq_true h0
      rw [e0] at HR ⊢
      clear h0 e0
      go_wp2_with fail
      refine (unhide M3).mono ?_
      rintro e w3 ⟨rfl, b3⟩
      have B3 := hide ((unhide B2).trans (b3.mono (unhide B2).size))
      clear b3 M3
      obtain rfl : r2 = R := by rw [← unhide HR]; simp
      clear HR
      go_wp2
      go_ret
      exact ⟨rfl, unhide B3⟩
    · have e0 : decide (0 < no) = false := decide_eq_false h0
      rw [e0] at HR ⊢
      obtain rfl : true = R := by rw [← unhide HR]; simp
      clear h0 e0 HR
      go_wp2
      go_ret
      exact ⟨rfl, unhide B2⟩
end Go.Proofs.Ytjcidihcmbenhaa

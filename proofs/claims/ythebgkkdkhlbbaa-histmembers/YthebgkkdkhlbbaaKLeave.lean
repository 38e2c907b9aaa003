/- conf.Leave: a contract. -/
import Derived.Test.YthebgkkdkhlbbaaKEnter2
import Derived.Test.YthebgkkdkhlbbaaHBase
namespace Go.Proofs.Ythebgkkdkhlbbaa
open Go.RowKit

def leaveOf (old : List Int) : Nat := if old = [] then 2 else 0
def leaveN (old new : List Int) : List Int := if old = [] then [] else new
theorem leave_none {old : List Int} {no : Nat} (h : old.length = no) (h0 : decide (0 < no) = false) (new : List Int) : 2 = leaveOf old ∧ [] = leaveN old new := by
  have : old = [] := List.eq_nil_of_length_eq_zero (by simp at h0; omega)
  subst this; exact ⟨rfl, rfl⟩
theorem leave_joint {old : List Int} {no : Nat} (h : old.length = no) (h0 : decide (0 < no) = true) (new : List Int) : 0 = leaveOf old ∧ new = leaveN old new := by
  have : old ≠ [] := by intro e; subst e; simp at h; subst h; simp at h0
  unfold leaveOf leaveN
  rw [if_neg this, if_neg this]; exact ⟨rfl, rfl⟩

set_option maxHeartbeats 1000000 in
theorem leave_any (ao an : Option Addr) (no nn co cn : Nat) (old new : List Int) (hno : old.length = no) (hnn : new.length = nn) (hln : nn ≤ 1000000) (w : World) (hw : IntsR w an new) :
    Calls Try.prog 57 #[.agg #[.slice ao no co, .slice an nn cn]] w fun e w' => ∃ v, e = .returned (.tuple #[v, .int .i64 ((leaveOf old : Nat) : Int)]) ∧ Cf w' v [] (leaveN old new) ∧ Below w.heap.size w w' := by
  obtain ⟨W0, hW0, bW0, xW0, sW0⟩ := boxed w (.slice ao no co) (.slice an nn cn)
  obtain ⟨W, hW, bW1, xW1, sW1⟩ := boxed W0 (.slice none 0 0) (.slice none 0 0)
  have bW := bW0.trans (bW1.mono bW0.size)
  have JO := hide (joint_any (.slice ao no co) (.slice an nn cn) ao no co rfl W)
  have TW := hide (fun (Y : World) (h : Below W.heap.size W Y) => twin_any an nn cn new hnn Y ((hw.below bW).below h) (by omega))
  obtain ⟨j, hj⟩ : ∃ j, decide (0 < no) = j := ⟨_, rfl⟩
  obtain ⟨r, hr⟩ : ∃ r, leaveOf old = r := ⟨_, rfl⟩
  obtain ⟨en, hen⟩ : ∃ en, leaveN old new = en := ⟨_, rfl⟩
  have HE : Hid ((j = false → 2 = r ∧ [] = en) ∧ (j = true → 0 = r ∧ new = en)) := by
    rw [← hen, ← hr]
    exact ⟨fun h => leave_none hno (hj.trans h) new, fun h => leave_joint hno (hj.trans h) new⟩
  rw [hj] at JO
  rw [hr, hen]
  have HW : Hid ((w.alloc (.cells #[.slice ao no co, .slice an nn cn] 34)).alloc (.cells #[.slice none 0 0, .slice none 0 0] 34) = W) := by rw [hW0]; exact hW
  have BW := hide bW
  have XA := hide (Below.stay bW1 xW0)
  have SW : Hid (W.heap.size = w.heap.size + 1 + 1) := by show _ = _; rw [sW1, sW0]
  rw [sW0] at xW1
  have XB := hide xW1
  clear hW bW hW0 bW0 bW1 xW0 xW1 sW0 sW1 hr hj hen hw hno hnn
  go_enter Try.func57, Try.ntmps57
  go_wp2_with fail
  rw [unhide HW]
  refine (unhide JO).mono ?_
  rintro e w1 ⟨rfl, b1⟩
  have CB := hide b1
  have B1 := hide ((unhide BW).trans (b1.mono (unhide BW).size))
  obtain ⟨c0, c1⟩ := two_cells (Below.stay b1 (unhide XA))
  have X1 := hide (Below.stay b1 (unhide XB))
  clear b1 JO HW
  cases j
  · obtain ⟨rfl, rfl⟩ := (unhide HE).1 rfl
    obtain ⟨d0, d1⟩ := two_cells (unhide X1)
    obtain ⟨g0, g1⟩ := two_free (unhide X1)
    clear HE TW
    go_wp2
    obtain ⟨r0, r1, rb, rk⟩ := two_end (a := .slice none 0 0) (b := .slice none 0 0) (unhide X1) (Nat.le_succ _) (unhide B1)
    exact bodyPost_ret (v := .tuple #[.agg #[.slice none 0 0, .slice none 0 0], .int .i64 2]) (by simp [results, Try.results57, go_sem, r0, r1]) rfl ⟨_, rfl, Cf.nil _, rb⟩
  · obtain ⟨rfl, rfl⟩ := (unhide HE).2 rfl
    have T1 := hide (unhide TW _ (unhide CB))
    clear HE TW
    go_wp2_with fail
    refine (unhide T1).mono ?_
    rintro e w3 ⟨v3, rfl, o3, b3⟩
    have B3 := hide ((unhide B1).trans (b3.mono (unhide B1).size))
    have x3 := Below.stay b3 (unhide X1)
    have X3 := hide x3
    obtain ⟨a3, p3, rfl, f3, l3, _⟩ := o3.slice
    have k3 : Hid (∀ a, a3 = some a → a.block ≠ w.heap.size + 1) := fun a ha => by
      have := o3.blk a ha
      have := (unhide CB).size
      have := unhide SW
      omega
    have F3 := hide f3
    have L3 := hide l3
    obtain ⟨d0, d1⟩ := two_cells x3
    obtain ⟨g0, g1⟩ := two_free x3
    clear o3 b3 T1 x3 f3 l3 X1 c0 c1
    go_wp2
    obtain ⟨r0, r1, rb, rk⟩ := two_end (a := .slice none 0 0) (b := .slice a3 new.length p3) (unhide X3) (Nat.le_succ _) (unhide B3)
    refine bodyPost_ret (v := .tuple #[.agg #[.slice none 0 0, .slice a3 new.length p3], .int .i64 0]) (by simp [results, Try.results57, go_sem, r0, r1]) rfl ⟨_, rfl, ?_, rb⟩
    exact ⟨_, _, _, _, _, _, rfl, rfl, Nat.le_refl _, Fr.nil _, rfl, unhide L3, (unhide F3).other rk (unhide k3)⟩
end Go.Proofs.Ythebgkkdkhlbbaa

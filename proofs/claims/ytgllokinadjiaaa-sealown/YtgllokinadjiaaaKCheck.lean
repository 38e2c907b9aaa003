/- conf.Check, Members, In, Same: contracts. -/
import Derived.Test.YtgllokinadjiaaaKClimb
import Derived.Test.YtgllokinadjiaaaKPlain
import Derived.Test.YtgllokinadjiaaaKSame
namespace Go.Proofs.Ytgllokinadjiaaa
open Go.RowKit

theorem boxed (w : World) (x y : Value) : ∃ W, w.alloc (.cells #[x, y] 29) = W ∧ Below w.heap.size w W ∧ W.heap[w.heap.size]? = some (.cells #[x, y] 29 (0, 0)) ∧ W.heap.size = w.heap.size + 1 :=
  ⟨_, rfl, (Below.refl _ w).alloc (Nat.le_refl _) _, box_at _ _, by simp⟩
theorem wr_nat (n : Nat) (h : n ≤ 1000000) : IntKind.i64.wrap (n : Int) = (n : Int) := IntWalk.i64_in _ (by omega)

set_option maxHeartbeats 1000000 in
theorem check_any (ao an : Option Addr) (no nn co cn : Nat) (old new : List Int) (hno : old.length = no) (hnn : new.length = nn) (hlo : no ≤ 1000000000) (hln : nn ≤ 1000000000) (w : World) (ho : IntsR w ao old) (hw : IntsR w an new) :
    Calls Try.prog 33 #[.agg #[.slice ao no co, .slice an nn cn]] w fun e w' => e = .returned (.int .i64 ((checkOf old new : Nat) : Int)) ∧ Below w.heap.size w w' := by
  obtain ⟨W, hW, bW, xW, _⟩ := boxed w (.slice ao no co) (.slice an nn cn)
  have W0 := hide (wrong_any false 0 rfl ao no co old hno hlo W (ho.below bW))
  have W1 := hide (fun (Y : World) (h : Below W.heap.size W Y) => wrong_any true 1 rfl an nn cn new hnn hln Y ((hw.below bW).below h))
  obtain ⟨R, hR⟩ : ∃ R, checkOf old new = R := ⟨_, rfl⟩
  rw [hR]
  obtain ⟨r0, h0⟩ : ∃ r0, wrongOf false old = r0 := ⟨_, rfl⟩
  obtain ⟨r1, h1⟩ : ∃ r1, wrongOf true new = r1 := ⟨_, rfl⟩
  have HR : Hid ((if r0 = 0 then r1 else r0) = R) := by
    show _ = _
    rw [← hR, ← h0, ← h1]; rfl
  rw [h0] at W0
  rw [h1] at W1
  have HW := hide hW
  have BW := hide bW
  have XW := hide xW
  clear hW bW xW hR h0 h1 ho hw hno hnn
  go_enter Try.func33, Try.ntmps33
  go_wp2_with fail
  rw [unhide HW]
  refine (unhide W0).mono ?_
  rintro e w1 ⟨rfl, b1⟩
  have B1 := hide ((unhide BW).trans (b1.mono (unhide BW).size))
  obtain ⟨c0, c1⟩ := two_cells (Below.stay b1 (unhide XW))
  have W2 := hide (unhide W1 _ b1)
  clear b1 W0 W1 HW
  by_cases hz : r0 = 0
  · have HR2 : Hid (r1 = R) := by
      have := unhide HR
      rw [if_pos hz] at this; exact this
    subst hz
    clear HR
    go_wp2_with fail
    refine (unhide W2).mono ?_
    rintro e w2 ⟨rfl, b2⟩
    have B2 := hide ((unhide B1).trans (b2.mono (unhide B1).size))
    obtain rfl := unhide HR2
    clear b2 W2 HR2
    go_wp2
    go_ret
    exact ⟨rfl, unhide B2⟩
  · have hz' : ((r0 : Int) != 0) = true := by rw [bne_iff_ne]; omega
    obtain rfl : r0 = R := by
      have := unhide HR
      rw [if_neg hz] at this; exact this
    clear HR hz
    go_wp2
    go_ret
    exact ⟨rfl, unhide B1⟩

def inOf (old new : List Int) (x : Int) : Bool := old.contains x || new.contains x
end Go.Proofs.Ytgllokinadjiaaa

/- The reference's has, In, Joint, half: contracts. -/
import Derived.Test.YtgllokinadjiaaaGreatDoorKPlain
namespace Go.Proofs.YtgllokinadjiaaaGreatDoor
open Go.RowKit

theorem has_step {xs : List Int} {k : Nat} (h : k < xs.length) (x : Int) : (xs.drop k).contains x = ((xs.getD k 0 == x) || (xs.drop (k + 1)).contains x) := by
  rw [drop_getD h, List.contains_cons, Bool.beq_comm]
set_option maxHeartbeats 1000000 in
theorem rjoint_any (vo vn : Value) (ao : Option Addr) (n c : Nat) (hv : vo = .slice ao n c) (w : World) :
    Calls Tryz.prog 30 #[.agg #[vo, vn]] w fun e w' => e = .returned (.bool (decide (0 < n))) ∧ Below w.heap.size w w' := by
  subst hv
  go_enter Tryz.func30, Tryz.ntmps30
  go_wp2
  go_ret
  exact ⟨rfl, (Below.refl _ w).alloc (Nat.le_refl _) _⟩

end Go.Proofs.YtgllokinadjiaaaGreatDoor

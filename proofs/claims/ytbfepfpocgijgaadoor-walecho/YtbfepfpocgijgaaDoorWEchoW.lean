/- The walk of WalEcho. -/
import Derived.Test.YtbfepfpocgijgaaDoorWEchoA
import Derived.Test.YtbfepfpocgijgaaDoorWEchoB
namespace Go.Proofs.YtbfepfpocgijgaaDoor
open Go.RowKit
theorem echo_walk (aor : Option Addr) (nr cr : Nat) (xr : List (List Nat)) (hnr : xr.length = nr) (keep : Int) (g a : Addr) (w : World) (hr : RowsArg w aor xr) (hS : Start w g a) :
    Calls Tryd.prog 5 #[.slice aor nr cr, .int .i64 keep] w fun e w' => e = .returned (.bool true) ∧ Below w.heap.size w w' := by
  rcases Nat.eq_zero_or_pos (smallOf xr).length with h | h
  · exact echo_none aor nr cr xr hnr keep g a w hr hS h
  · exact echo_some aor nr cr xr hnr keep g a w hr hS h
end Go.Proofs.YtbfepfpocgijgaaDoor

/- wire's writer: a configuration: a contract. -/
import Derived.Test.YtjcllplgiffmgaaDoorWriterN
namespace Go.Proofs.YtjcllplgiffmgaaDoor
open Go.RowKit

def putConfig (xs ys : List Int) (s : List Nat × Nat) : List Nat × Nat := putList 5 ys (putList 5 xs s)

set_option maxRecDepth 20000 in
set_option maxHeartbeats 1000000 in
theorem config_any (base p : Nat) (s : List Nat × Nat) (ao bo : Option Addr) (n m ca cb : Nat) (xs ys : List Int) (hn : xs.length = n) (hm : ys.length = m) (hl : s.1.length ≤ 800000000) (w : World) (h : Wr base w p s.1 s.2) (hx : Ints base [5, 105] w ao xs) (hy : Ints base [5, 105] w bo ys) (hbase : base ≤ w.heap.size) :
    Calls Tryd.prog 43 #[.pointer (some ⟨p, 0, none⟩), .agg #[.slice ao n ca, .slice bo m cb]] w fun e w' => e = .returned (.tuple #[]) ∧ Wr base w' p (putConfig xs ys s).1 (putConfig xs ys s).2 ∧ Only base [5, 105] w w' := by
  have W0 := hide (h.below ((Below.refl _ w).alloc (Nat.le_refl _) (.cells #[.slice ao n ca, .slice bo m cb] 39)))
  have k0 : Only base [5, 105] w (w.alloc (.cells #[.slice ao n ca, .slice bo m cb] 39)) := (Only.refl _ _ _).alloc hbase _
  have K0 := hide k0
  have X0 := hide (hx.only k0)
  have Y0 := hide (hy.only k0)
  have B0 := hide (heap_alloc_new w (.cells #[.slice ao n ca, .slice bo m cb] 39))
  have S0 := hide (Nat.le_trans hbase k0.size)
  have HN := hide hn
  have HM := hide hm
  have L1 := hide (putList_len 5 xs s)
  clear h hx hy k0 hn hm
  go_enter Tryd.func43, Tryd.ntmps43
  go_wp2_with fail
  refine (list_any base p 5 (by decide) s ao n ca xs (unhide HN) (by omega) _ (unhide W0) (unhide X0) (unhide S0)).mono ?_
  rintro e w1 ⟨rfl, h1, k1⟩
  have x1 := k1.block (unhide B0) (by decide)
  have c1 : w1.cell? ⟨w.heap.size, 1, none⟩ = some (.slice bo m cb) := (cell_of_block x1).trans rfl
  have H1 := hide h1
  have K1 := hide ((unhide K0).trans k1)
  have Y1 := hide ((unhide Y0).only k1)
  have s1 : base ≤ w1.heap.size := Nat.le_trans (unhide S0) k1.size
  clear h1 x1 k1
  go_wp2_with fail
  refine (list_any base p 5 (by decide) _ bo m cb ys (unhide HM) (by have := unhide L1; omega) w1 (unhide H1) (unhide Y1) s1).mono ?_
  rintro e w2 ⟨rfl, h2, k2⟩
  have H2 := hide h2
  have K2 := hide ((unhide K1).trans k2)
  clear h2 k2 c1
  go_wp2
  go_end0
  exact ⟨rfl, unhide H2, unhide K2⟩
end Go.Proofs.YtjcllplgiffmgaaDoor

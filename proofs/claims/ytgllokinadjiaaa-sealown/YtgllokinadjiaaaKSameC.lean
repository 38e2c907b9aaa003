/- conf.Same and the reference's: contracts. -/
import Derived.Test.YtgllokinadjiaaaKCheck
namespace Go.Proofs.Ytgllokinadjiaaa
open Go.RowKit

def sameOf (old new old' new' : List Int) : Bool := decide (old = old') && decide (new = new')
set_option maxHeartbeats 1000000 in
theorem rsame_any (ao an bo bn : Option Addr) (no nn co cn mo mn po pn : Nat) (old new old' new' : List Int) (hno : old.length = no) (hnn : new.length = nn) (hmo : old'.length = mo) (hmn : new'.length = mn) (hlo : no ≤ 1000000) (hln : nn ≤ 1000000) (w : World) (ho : IntsR w ao old) (hw : IntsR w an new) (ho' : IntsR w bo old') (hw' : IntsR w bn new') :
    Calls Try.prog 15 #[.agg #[.slice ao no co, .slice an nn cn], .agg #[.slice bo mo po, .slice bn mn pn]] w fun e w' => e = .returned (.bool (sameOf old new old' new')) ∧ Below w.heap.size w w' := by
  obtain ⟨W0, hW0, bW0, xW0, sW0⟩ := boxed w (.slice ao no co) (.slice an nn cn)
  obtain ⟨W, hW, bW1, xW1, _⟩ := boxed W0 (.slice bo mo po) (.slice bn mn pn)
  have bW := bW0.trans (bW1.mono bW0.size)
  have E0 := hide (ysame_any ao bo no mo co po old old' hno hmo (by omega) W (ho.below bW) (ho'.below bW))
  have E1 := hide (fun (Y : World) (h : Below W.heap.size W Y) => ysame_any an bn nn mn cn pn new new' hnn hmn (by omega) Y ((hw.below bW).below h) ((hw'.below bW).below h))
  obtain ⟨R, hR⟩ : ∃ R, sameOf old new old' new' = R := ⟨_, rfl⟩
  rw [hR]
  obtain ⟨r0, h0⟩ : ∃ r0, decide (old = old') = r0 := ⟨_, rfl⟩
  obtain ⟨r1, h1⟩ : ∃ r1, decide (new = new') = r1 := ⟨_, rfl⟩
  have HR : Hid ((r0 && r1) = R) := by
    show _ = _
    rw [← hR, ← h0, ← h1]; rfl
  rw [h0] at E0
  rw [h1] at E1
  have HW : Hid ((w.alloc (.cells #[.slice ao no co, .slice an nn cn] 29)).alloc (.cells #[.slice bo mo po, .slice bn mn pn] 29) = W) := by rw [hW0]; exact hW
  have BW := hide bW
  have XA := hide (Below.stay bW1 xW0)
  rw [sW0] at xW1
  have XB := hide xW1
  clear hW bW hW0 bW0 bW1 xW0 xW1 sW0 hR h0 h1 ho hw hno hnn hmo hmn ho' hw'
  go_enter Try.func15, Try.ntmps15
  go_wp2_with fail
  rw [unhide HW]
  refine (unhide E0).mono ?_
  rintro e w1 ⟨rfl, b1⟩
  have B1 := hide ((unhide BW).trans (b1.mono (unhide BW).size))
  obtain ⟨c0, c1⟩ := two_cells (Below.stay b1 (unhide XA))
  obtain ⟨d0, d1⟩ := two_cells (Below.stay b1 (unhide XB))
  have E2 := hide (unhide E1 _ b1)
  clear b1 E0 E1 HW
  cases r0
  · obtain rfl : false = R := unhide HR
    clear HR
    go_wp2
    go_ret
    exact ⟨rfl, unhide B1⟩
  · obtain rfl : r1 = R := unhide HR
    clear HR
    go_wp2_with fail
    refine (unhide E2).mono ?_
    rintro e w2 ⟨rfl, b2⟩
    have B2 := hide ((unhide B1).trans (b2.mono (unhide B1).size))
    clear b2 E2
    go_wp2
    go_ret
    exact ⟨rfl, unhide B2⟩

end Go.Proofs.Ytgllokinadjiaaa

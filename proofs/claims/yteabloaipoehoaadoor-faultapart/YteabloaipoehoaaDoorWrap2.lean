/- fault.Wrap where there is room for one place more: the new error's own place. -/
import Derived.Test.YteabloaipoehoaaDoorLists
namespace Go.Proofs.YteabloaipoehoaaDoor
open Go.RowKit Go.Extern.Stop Go.Stop Go.Extern

set_option maxHeartbeats 400000 in
theorem wrap_new (s : ByteArray) (bv : Value) (hv : Base bv) (ps : List ByteArray) (hl : ps.length < 16) (v : Value) (w : World) (hg : Glob w) (hc : Chain w bv ps v) :
    Calls Tryd.prog 12 #[.string s, v] w fun ev w' => ∃ b, ev = .returned (.iface 44 (.pointer (some ⟨b, 0, none⟩))) ∧ w.heap.size ≤ b ∧ w'.cell? ⟨b, 0, none⟩ = some (.string s) ∧ w'.cell? ⟨b, 1, none⟩ = some v ∧ Below w.heap.size w w' := by
  obtain ⟨T, x, rfl⟩ := hc.form hv
  have HC := hide hc
  have HV := hide hv
  clear hc hv
  go_enter Tryd.func12, Tryd.ntmps12
  go_wp2_with fail
  refine (where_chain bv (unhide HV) ps (by omega) _ w hg (unhide HC)).mono ?_
  rintro e w1 ⟨l, rfl, hown, hb⟩
  obtain ⟨ao, cap, rfl⟩ := own_shape hown
  have HB := hide hb
  clear hown hb
  go_wp2_with fail
  go_ret
  exact ⟨_, rfl, (unhide HB).size, by simp, by simp, (unhide HB).alloc (unhide HB).size _⟩
end Go.Proofs.YteabloaipoehoaaDoor

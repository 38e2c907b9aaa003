/- The functions of package fault that make no list, and the law's own small ones: contracts. -/
import Derived.Test.YteabloaipoehoaaDoorAsNone
import Derived.Test.YteabloaipoehoaaDoorAsNum
import Derived.Test.YteabloaipoehoaaDoorIs
namespace Go.Proofs.YteabloaipoehoaaDoor
open Go.RowKit Go.Extern.Stop Go.Stop Go.Extern

theorem Below.undo {w w' : World} {o : Obj} (h : Below w.heap.size (w.alloc o) w') : Below w.heap.size w w' := ((Below.refl _ w).alloc (Nat.le_refl _) o).trans h

set_option maxHeartbeats 400000 in
theorem outermost_place (e : Addr) (w : World) (hg : Glob w) :
    Calls Tryd.prog 20 #[.iface 44 (.pointer (some e))] w fun ev w' => ev = .returned (.pointer (some e)) ∧ Below w.heap.size w w' := by
  have HG := hide (hg.alloc (.cells #[.pointer none] 44))
  go_enter Tryd.func20, Tryd.ntmps20
  go_wp2_with (go_at_call 16; refine (as_place e ⟨w.heap.size, 0, none⟩ (.pointer none) _ (unhide HG) (by simp) (by simp)).mono ?_; rintro e w' ⟨rfl, hc, hb⟩)
  go_ret
  exact ⟨rfl, Below.undo hb⟩

set_option maxHeartbeats 400000 in
theorem outermost_nil (w : World) :
    Calls Tryd.prog 20 #[.nilIface] w fun ev w' => ev = .returned (.pointer none) ∧ Below w.heap.size w w' := by
  go_enter Tryd.func20, Tryd.ntmps20
  go_wp2_with (go_at_call 16; refine (as_nil _ _).mono ?_; rintro e w' ⟨rfl, rfl⟩)
  go_ret
  exact ⟨rfl, (Below.refl _ w).alloc (Nat.le_refl _) _⟩

set_option maxHeartbeats 400000 in
theorem outermost_base (bv : Value) (hv : Base bv) (w : World) (hg : Glob w) :
    Calls Tryd.prog 20 #[bv] w fun ev w' => ev = .returned (.pointer none) ∧ Below w.heap.size w w' := by
  have HG := hide (hg.alloc (.cells #[.pointer none] 44))
  rcases hv with ⟨n, rfl⟩ | ⟨x, rfl⟩
  · go_enter Tryd.func20, Tryd.ntmps20
    go_wp2_with (go_at_call 16; refine (as_place24 n _ _ (unhide HG)).mono ?_; rintro e w' ⟨rfl, hb⟩)
    go_ret
    exact ⟨rfl, Below.undo (hb.mono (by simp))⟩
  · go_enter Tryd.func20, Tryd.ntmps20
    go_wp2_with (go_at_call 16; refine (as_place62 x _ _ (unhide HG)).mono ?_; rintro e w' ⟨rfl, hb⟩)
    go_ret
    exact ⟨rfl, Below.undo (hb.mono (by simp))⟩

set_option maxHeartbeats 400000 in
theorem kind_nil (w : World) : Calls Tryd.prog 14 #[.nilIface] w fun ev w' => ev = .returned (.int .i64 0) ∧ w' = w := by
  go_enter Tryd.func14, Tryd.ntmps14
  go_wp2
  go_ret
  exact ⟨rfl, rfl⟩

set_option maxHeartbeats 400000 in
theorem kind_num (n : Int) (hn : (n == 0) = false) (ps : List ByteArray) (v : Value) (w : World) (hg : Glob w) (hc : Chain w (.iface 24 (.int .i64 n)) ps v) :
    Calls Tryd.prog 14 #[v] w fun ev w' => ev = .returned (.int .i64 n) ∧ Below w.heap.size w w' := by
  have HG := hide (hg.alloc (.cells #[.int .i64 0] 24))
  have HC := hide (hc.keep (keep_alloc _ (.cells #[.int .i64 0] 24)))
  obtain ⟨T, x, rfl⟩ := hc.form (Or.inl ⟨n, rfl⟩)
  clear hc
  go_enter Tryd.func14, Tryd.ntmps14
  go_wp2_with (go_at_call 16; refine (as_num n ps _ ⟨w.heap.size, 0, none⟩ (.int .i64 0) _ (unhide HG) (unhide HC) (by simp) (by simp)).mono ?_; rintro e w' ⟨rfl, hc, hb⟩)
  go_ret
  exact ⟨rfl, Below.undo hb⟩

set_option maxHeartbeats 400000 in
theorem kind_plain (x : Value) (ps : List ByteArray) (v : Value) (w : World) (hg : Glob w) (hc : Chain w (.iface 62 x) ps v) :
    Calls Tryd.prog 14 #[v] w fun ev w' => ev = .returned (.int .i64 12) ∧ Below w.heap.size w w' := by
  have HG := hide (hg.alloc (.cells #[.int .i64 0] 24))
  have HC := hide (hc.keep (keep_alloc _ (.cells #[.int .i64 0] 24)))
  obtain ⟨T, y, rfl⟩ := hc.form (Or.inr ⟨x, rfl⟩)
  clear hc
  go_enter Tryd.func14, Tryd.ntmps14
  go_wp2_with (go_at_call 16; refine (as_num62 x ps _ ⟨w.heap.size, 0, none⟩ _ (unhide HG) (unhide HC)).mono ?_; rintro e w' ⟨rfl, hb⟩)
  go_ret
  exact ⟨rfl, Below.undo (hb.mono (by simp))⟩
end Go.Proofs.YteabloaipoehoaaDoor

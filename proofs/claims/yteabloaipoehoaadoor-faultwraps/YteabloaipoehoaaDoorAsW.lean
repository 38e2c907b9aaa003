/- What errors.As does to a target of type *place: contracts. -/
import Derived.Test.YteabloaipoehoaaDoorFacts
import Derived.Deep.LoopGhost
namespace Go.Proofs.YteabloaipoehoaaDoor
open Go.RowKit Go.Extern.Stop Go.Stop Go.Extern

theorem blk_lt {w : World} {t : Addr} {v : Value} (h : w.cell? t = some v) : t.block < w.heap.size := by
  rcases Nat.lt_or_ge t.block w.heap.size with h1 | h1
  · exact h1
  · simp [World.cell?, Array.getElem?_eq_none h1] at h

/-- errors.as, the error a place, the target a variable for a place: it is set. -/
theorem as24_hit (e t a : Addr) (old : Value) (w : World) (ha : w.cell? a = some (.pointer (some t))) (ht0 : w.cell? t = some old) (hf0 : w.frozen? t = false) :
    Calls Tryd.prog 24 #[.iface 44 (.pointer (some e)), .iface 65 (.pointer (some t)), .agg #[.pointer (some ⟨1, 65, none⟩), .pointer (some a), .int .u64 150], .iface 67 (.agg #[.pointer (some ⟨1, 44, none⟩)])] w
      fun ev w' => ev = .returned (.bool true) ∧ w' = ((w.alloc (.cells #[.pointer (some ⟨1, 65, none⟩), .pointer (some a), .int .u64 150] 51)).alloc (.cells #[.pointer (some e)] 44)).setCell t (.pointer (some e)) := by
  have h10 := @run_callFunc_extern Tryd.prog 25 _ ReflectliteType.typeOf Tryd.func25 (by kernel_rfl) (by kernel_rfl) (by kernel_rfl) (by kernel_rfl)
  have h35 := @run_callFunc_extern Tryd.prog 54 _ (ReflectliteType.relation "AssignableTo" ReflectliteType.assignableTo) Tryd.func54 (by kernel_rfl) (by kernel_rfl) (by kernel_rfl) (by kernel_rfl)
  have h11 := @run_callFunc_extern Tryd.prog 27 _ (ReflectliteValue.method (ReflectliteValue.valueError "reflectlite.Value.Elem" 0) ReflectliteValue.elem) Tryd.func27 (by kernel_rfl) (by kernel_rfl) (by kernel_rfl) (by kernel_rfl)
  have h6 := @run_callFunc_extern Tryd.prog 21 _ (fun args => ReflectliteValue.unpack (args.getD 0 (.tuple #[]))) Tryd.func21 (by kernel_rfl) (by kernel_rfl) (by kernel_rfl) (by kernel_rfl)
  have h12 := @run_callFunc_extern Tryd.prog 28 _ ReflectliteValue.set Tryd.func28 (by kernel_rfl) (by kernel_rfl) (by kernel_rfl) (by kernel_rfl)
  have tO := Tryd.typeOf44
  have mA := Tryd.methodAssignableTo
  have aa := Tryd.asg44to44
  have v44 := Tryd.valueOf44
  have hal := blk_lt ha
  have htl := blk_lt ht0
  have el := Tryd.elemV65 a t (w.alloc (.cells #[.pointer (some ⟨1, 65, none⟩), .pointer (some a), .int .u64 150] 51)) (by rw [World.cell?_alloc_lt _ _ a hal]; exact ha)
  have st := Tryd.set44 t ⟨w.heap.size + 1, 0, none⟩ e old ((w.alloc (.cells #[.pointer (some ⟨1, 65, none⟩), .pointer (some a), .int .u64 150] 51)).alloc (.cells #[.pointer (some e)] 44))
    (by rw [World.cell?_alloc_at _ _ _ _ (by simp)]; rfl)
    (by rw [World.cell?_alloc_lt _ _ t (by simp; omega), World.cell?_alloc_lt _ _ t htl]; exact ht0)
    (by rw [World.frozen?_alloc_old _ _ t (by simp; omega), World.frozen?_alloc_old _ _ t (Nat.ne_of_lt htl)]; exact hf0)
  go_enter Tryd.func24, Tryd.ntmps24
  go_wp2
  refine wp_loop_rounds 1 ?_
  rw [rounds_succ]
  go_wp2
  go_ret
  exact ⟨rfl, rfl⟩

/-- errors.as, the error a bare number, the target a variable for a place: none. -/
theorem as24_miss24 (n : Int) (t : Value) (a : Value) (w : World) :
    Calls Tryd.prog 24 #[.iface 24 (.int .i64 n), t, .agg #[.pointer (some ⟨1, 65, none⟩), a, .int .u64 150], .iface 67 (.agg #[.pointer (some ⟨1, 44, none⟩)])] w
      fun ev w' => ev = .returned (.bool false) ∧ w' = (w.alloc (.cells #[.pointer (some ⟨1, 65, none⟩), a, .int .u64 150] 51)) := by
  have h10 := @run_callFunc_extern Tryd.prog 25 _ ReflectliteType.typeOf Tryd.func25 (by kernel_rfl) (by kernel_rfl) (by kernel_rfl) (by kernel_rfl)
  have h35 := @run_callFunc_extern Tryd.prog 54 _ (ReflectliteType.relation "AssignableTo" ReflectliteType.assignableTo) Tryd.func54 (by kernel_rfl) (by kernel_rfl) (by kernel_rfl) (by kernel_rfl)
  have tO := Tryd.typeOf24
  have mA := Tryd.methodAssignableTo
  have aa := Tryd.asg24to44
  have n1 := Tryd.noAs24
  have n2 := Tryd.no24
  have n3 := Tryd.nos24
  go_enter Tryd.func24, Tryd.ntmps24
  go_wp2
  refine wp_loop_rounds 1 ?_
  rw [rounds_succ]
  go_wp2
  go_ret
  exact ⟨rfl, rfl⟩

theorem as24_miss62 (x : Value) (t : Value) (a : Value) (w : World) :
    Calls Tryd.prog 24 #[.iface 62 x, t, .agg #[.pointer (some ⟨1, 65, none⟩), a, .int .u64 150], .iface 67 (.agg #[.pointer (some ⟨1, 44, none⟩)])] w
      fun ev w' => ev = .returned (.bool false) ∧ w' = (w.alloc (.cells #[.pointer (some ⟨1, 65, none⟩), a, .int .u64 150] 51)) := by
  have h10 := @run_callFunc_extern Tryd.prog 25 _ ReflectliteType.typeOf Tryd.func25 (by kernel_rfl) (by kernel_rfl) (by kernel_rfl) (by kernel_rfl)
  have h35 := @run_callFunc_extern Tryd.prog 54 _ (ReflectliteType.relation "AssignableTo" ReflectliteType.assignableTo) Tryd.func54 (by kernel_rfl) (by kernel_rfl) (by kernel_rfl) (by kernel_rfl)
  have tO := Tryd.typeOf62
  have mA := Tryd.methodAssignableTo
  have aa := Tryd.asg62to44
  have n1 := Tryd.noAs62
  have n2 := Tryd.no62
  have n3 := Tryd.nos62
  go_enter Tryd.func24, Tryd.ntmps24
  go_wp2
  refine wp_loop_rounds 1 ?_
  rw [rounds_succ]
  go_wp2
  go_ret
  exact ⟨rfl, rfl⟩
end Go.Proofs.YteabloaipoehoaaDoor

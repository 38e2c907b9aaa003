/- errors.As at a flaw around a number, the target a variable for a number; wire.number: contracts. -/
import Derived.Test.YtojmnlbdhpledaaDoorAsF
namespace Go.Proofs.YtojmnlbdhpledaaDoor
open Go.RowKit Go.Extern.Stop Go.Stop Go.Extern

/-- errors.errorType holds what package errors lays there. -/
def Glob (w : World) : Prop := w.cell? ⟨1, 0, none⟩ = some (.iface 144 (.agg #[.pointer (some ⟨2, 103, none⟩)]))
theorem keep_alloc {w : World} {o : Obj} {a : Addr} {u : Value} (h : w.cell? a = some u) : (w.alloc o).cell? a = some u := by
  rw [World.cell?_alloc_lt _ _ _ (blk_lt h)]; exact h
theorem Glob.alloc {w : World} (h : Glob w) (o : Obj) : Glob (w.alloc o) := keep_alloc h
theorem Glob.below {base : Nat} {w w' : World} (h : Glob w) (hb : Below base w w') (hz : 1 < base) : Glob w' := by
  unfold Glob; rw [hb.cell (p := ⟨1, 0, none⟩) hz]; exact h

set_option maxHeartbeats 400000 in
/-- errors.as, the error a flaw around a number, the target a variable for a number: it is set. -/
theorem as_flaw (n : Int) (b : Nat) (t a : Addr) (old : Value) (w : World) (hc : w.cell? ⟨b, 1, none⟩ = some (.iface 28 (.int .i64 n))) (ha : w.cell? a = some (.pointer (some t))) (ht0 : w.cell? t = some old) (hf0 : w.frozen? t = false) :
    Calls Tryd.prog 80 #[.iface 124 (.pointer (some ⟨b, 0, none⟩)), .iface 122 (.pointer (some t)), .agg #[.pointer (some ⟨2, 122, none⟩), .pointer (some a), .int .u64 150], .iface 144 (.agg #[.pointer (some ⟨2, 28, none⟩)])] w
      fun ev w' => ev = .returned (.bool true) ∧ w' = ((w.alloc (.cells #[.pointer (some ⟨2, 122, none⟩), .pointer (some a), .int .u64 150] 134)).alloc (.cells #[.int .i64 n] 28)).setCell t (.int .i64 n) := by
  have h10 := @run_callFunc_extern Tryd.prog 81 _ ReflectliteType.typeOf Tryd.func81 (by kernel_rfl) (by kernel_rfl) (by kernel_rfl) (by kernel_rfl)
  have h35 := @run_callFunc_extern Tryd.prog 108 _ (ReflectliteType.relation "AssignableTo" ReflectliteType.assignableTo) Tryd.func108 (by kernel_rfl) (by kernel_rfl) (by kernel_rfl) (by kernel_rfl)
  have h11 := @run_callFunc_extern Tryd.prog 82 _ (ReflectliteValue.method (ReflectliteValue.valueError "reflectlite.Value.Elem" 0) ReflectliteValue.elem) Tryd.func82 (by kernel_rfl) (by kernel_rfl) (by kernel_rfl) (by kernel_rfl)
  have h6 := @run_callFunc_extern Tryd.prog 77 _ (fun args => ReflectliteValue.unpack (args.getD 0 (.tuple #[]))) Tryd.func77 (by kernel_rfl) (by kernel_rfl) (by kernel_rfl) (by kernel_rfl)
  have h12 := @run_callFunc_extern Tryd.prog 83 _ ReflectliteValue.set Tryd.func83 (by kernel_rfl) (by kernel_rfl) (by kernel_rfl) (by kernel_rfl)
  have tO := Tryd.typeOfF
  have tO2 := Tryd.typeOfN
  have mA := Tryd.methodAssignableTo
  have mU := Tryd.methodUnwrap
  have aa := Tryd.asgFtoN
  have ab := Tryd.asgNtoN
  have v24 := Tryd.valueOfN
  have n1 := Tryd.noAsF
  have n2 := Tryd.hasF
  have hal := blk_lt ha
  have htl := blk_lt ht0
  have el := Tryd.elemVP a t (w.alloc (.cells #[.pointer (some ⟨2, 122, none⟩), .pointer (some a), .int .u64 150] 134)) (by rw [World.cell?_alloc_lt _ _ a hal]; exact ha)
  have st := Tryd.setN t ⟨w.heap.size + 1, 0, none⟩ n old ((w.alloc (.cells #[.pointer (some ⟨2, 122, none⟩), .pointer (some a), .int .u64 150] 134)).alloc (.cells #[.int .i64 n] 28))
    (by rw [World.cell?_alloc_at _ _ _ _ (by simp)]; rfl)
    (by rw [World.cell?_alloc_lt _ _ t (by simp; omega), World.cell?_alloc_lt _ _ t htl]; exact ht0)
    (by rw [World.frozen?_alloc_old _ _ t (by simp; omega), World.frozen?_alloc_old _ _ t (Nat.ne_of_lt htl)]; exact hf0)
  have hC : (w.alloc (.cells #[.pointer (some ⟨2, 122, none⟩), .pointer (some a), .int .u64 150] 134)).cell? ⟨b, 1, none⟩ = some (.iface 28 (.int .i64 n)) := keep_alloc hc
  clear hc
  go_enter Tryd.func80, Tryd.ntmps80
  go_wp2
  go_loopg [0] 1 (fun k v wr => wr = w.alloc (.cells #[.pointer (some ⟨2, 122, none⟩), .pointer (some a), .int .u64 150] 134) ∧ ((k = 1 ∧ v = .iface 124 (.pointer (some ⟨b, 0, none⟩))) ∨ (k = 0 ∧ v = .iface 28 (.int .i64 n))))
  case atStart => exact ⟨rfl, Or.inl ⟨rfl, rfl⟩⟩
  case round =>
    obtain ⟨rfl, ⟨hk, rfl⟩ | ⟨hk, rfl⟩⟩ := hrel
    · have HK := hide hk
      clear hk
      go_wp2
      go_roundg 0
      case measure => have := unhide HK; omega
      case rel => exact ⟨rfl, Or.inr ⟨rfl, rfl⟩⟩
    · clear hk
      go_wp2
      go_ret
      exact ⟨rfl, rfl⟩

set_option maxHeartbeats 1000000 in
/-- errors.As likewise. -/
theorem as_num (n : Int) (b : Nat) (t : Addr) (old : Value) (w : World) (hg : Glob w) (hc : w.cell? ⟨b, 1, none⟩ = some (.iface 28 (.int .i64 n))) (ht0 : w.cell? t = some old) (hf0 : w.frozen? t = false) :
    Calls Tryd.prog 71 #[.iface 124 (.pointer (some ⟨b, 0, none⟩)), .iface 122 (.pointer (some t))] w
      fun ev w' => ev = .returned (.bool true) ∧ w'.cell? t = some (.int .i64 n) ∧ Below t.block w w' := by
  have htl := blk_lt ht0
  have HC := hide (keep_alloc (o := .cells #[.pointer (some ⟨2, 122, none⟩), .pointer (some ⟨w.heap.size, 0, none⟩), .int .u64 150] 134) (keep_alloc (o := .cells #[.pointer (some t)] 122) hc))
  clear hc
  have h6 := @run_callFunc_extern Tryd.prog 77 _ (fun args => ReflectliteValue.unpack (args.getD 0 (.tuple #[]))) Tryd.func77 (by kernel_rfl) (by kernel_rfl) (by kernel_rfl) (by kernel_rfl)
  have h7 := @run_callFunc_extern Tryd.prog 78 _ (ReflectliteValue.methodAny (ReflectliteValue.valueError "reflectlite.Value.Type" 0) (fun t _ _ _ => ReflectliteType.toType t)) Tryd.func78 (by kernel_rfl) (by kernel_rfl) (by kernel_rfl) (by kernel_rfl)
  have h8 := @run_callFunc_extern Tryd.prog 79 _ (ReflectliteValue.method (ReflectliteValue.valueError "reflectlite.Value.IsNil" 0) ReflectliteValue.isNil) Tryd.func79 (by kernel_rfl) (by kernel_rfl) (by kernel_rfl) (by kernel_rfl)
  have h43 := @run_callFunc_extern Tryd.prog 98 _ (ReflectliteType.abiMethod fun t => do pure (.int .u8 (← Rtype.kind t))) Tryd.func98 (by kernel_rfl) (by kernel_rfl) (by kernel_rfl) (by kernel_rfl)
  have h56 := @run_callFunc_extern Tryd.prog 110 _ (ReflectliteType.method ReflectliteType.elem) Tryd.func110 (by kernel_rfl) (by kernel_rfl) (by kernel_rfl) (by kernel_rfl)
  have h57 := @run_callFunc_extern Tryd.prog 111 _ (ReflectliteType.relation "Implements" ReflectliteType.implements_) Tryd.func111 (by kernel_rfl) (by kernel_rfl) (by kernel_rfl) (by kernel_rfl)
  have f6 := Tryd.valueOfP
  have f7 := Tryd.typeP
  have mK := Tryd.methodKind
  have mE := Tryd.methodElem
  have mI := Tryd.methodImplements
  have k1 := Tryd.kindP
  have k2 := Tryd.kindN
  have e1 := Tryd.elemP
  have i1 := Tryd.implementsN
  have n8 := Tryd.isNilP ⟨w.heap.size, 0, none⟩ t ((w.alloc (.cells #[.pointer (some t)] 122)).alloc (.cells #[.pointer (some ⟨2, 122, none⟩), .pointer (some ⟨w.heap.size, 0, none⟩), .int .u64 150] 134)) (by simp)
  have hg2 : ((w.alloc (.cells #[.pointer (some t)] 122)).alloc (.cells #[.pointer (some ⟨2, 122, none⟩), .pointer (some ⟨w.heap.size, 0, none⟩), .int .u64 150] 134)).cell? ⟨1, 0, none⟩ = some (.iface 144 (.agg #[.pointer (some ⟨2, 103, none⟩)])) := (hg.alloc _).alloc _
  have hA : ((w.alloc (.cells #[.pointer (some t)] 122)).alloc (.cells #[.pointer (some ⟨2, 122, none⟩), .pointer (some ⟨w.heap.size, 0, none⟩), .int .u64 150] 134)).cell? ⟨w.heap.size, 0, none⟩ = some (.pointer (some t)) := by simp
  have hT : ((w.alloc (.cells #[.pointer (some t)] 122)).alloc (.cells #[.pointer (some ⟨2, 122, none⟩), .pointer (some ⟨w.heap.size, 0, none⟩), .int .u64 150] 134)).cell? t = some old := by
    rw [World.cell?_alloc_lt _ _ t (by simp; omega), World.cell?_alloc_lt _ _ t htl]; exact ht0
  have hF : ((w.alloc (.cells #[.pointer (some t)] 122)).alloc (.cells #[.pointer (some ⟨2, 122, none⟩), .pointer (some ⟨w.heap.size, 0, none⟩), .int .u64 150] 134)).frozen? t = false := by
    rw [World.frozen?_alloc_old _ _ t (by simp; omega), World.frozen?_alloc_old _ _ t (Nat.ne_of_lt htl)]; exact hf0
  have HT := hide hT
  have HF := hide hF
  have HA := hide hA
  clear hT hF hA ht0 hf0
  go_enter Tryd.func71, Tryd.ntmps71
  go_wp2_with (go_at_call 80; refine (as_flaw n b t _ old _ (unhide HC) (unhide HA) (unhide HT) (unhide HF)).mono ?_; rintro e w' ⟨rfl, rfl⟩)
  go_ret
  refine ⟨rfl, World.cell?_setCell_same _ t _ (u := old) ?_, ?_⟩
  · rw [World.cell?_alloc_lt _ _ t (by simp; omega), World.cell?_alloc_lt _ _ t (by simp; omega)]; exact unhide HT
  · exact (((((Below.refl _ w).alloc (by omega) _).alloc (by simp; omega) _).alloc (by simp; omega) _).alloc (by simp; omega) _).setCell (Nat.le_refl _) _

/-- the value ev is the error that is told by the number n; 0: none. -/
def Err (w : World) (ev : Value) (n : Nat) : Prop :=
  (n = 0 ∧ ev = .nilIface) ∨ ∃ b : Nat, n ≠ 0 ∧ ev = .iface 124 (.pointer (some ⟨b, 0, none⟩)) ∧ w.cell? ⟨b, 1, none⟩ = some (.iface 28 (.int .i64 (n : Int)))

theorem number_nil (w : World) : Calls Tryd.prog 57 #[.nilIface] w fun e w' => e = .returned (.int .i64 0) ∧ Below w.heap.size w w' := by
  go_enter Tryd.func57, Tryd.ntmps57
  go_wp2_with fail
  refine (as_nil _ _).mono ?_
  rintro e w1 ⟨rfl, rfl⟩
  go_wp2
  go_ret
  exact ⟨rfl, (Below.refl _ _).alloc (Nat.le_refl _) _⟩
theorem number_flaw (n : Int) (b : Nat) (w : World) (hg : Glob w) (hc : w.cell? ⟨b, 1, none⟩ = some (.iface 28 (.int .i64 n))) :
    Calls Tryd.prog 57 #[.iface 124 (.pointer (some ⟨b, 0, none⟩))] w fun e w' => e = .returned (.int .i64 n) ∧ Below w.heap.size w w' := by
  have HG := hide hg
  have HC := hide hc
  clear hg hc
  go_enter Tryd.func57, Tryd.ntmps57
  go_wp2_with fail
  refine (as_num n b ⟨w.heap.size, 0, none⟩ (.int .i64 0) _ ((unhide HG).alloc _) (keep_alloc (unhide HC)) (by simp) (by simp)).mono ?_
  rintro e w1 ⟨rfl, hc1, hb1⟩
  have HB := hide hb1
  clear hb1
  go_wp2
  go_ret
  exact ⟨rfl, ((Below.refl _ _).alloc (Nat.le_refl _) _).trans (unhide HB)⟩
theorem number_any (ev : Value) (n : Nat) (w : World) (hg : Glob w) (he : Err w ev n) :
    Calls Tryd.prog 57 #[ev] w fun e w' => e = .returned (.int .i64 n) ∧ Below w.heap.size w w' := by
  rcases he with ⟨rfl, rfl⟩ | ⟨b, _, rfl, hc⟩
  · exact number_nil w
  · exact number_flaw n b w hg hc
end Go.Proofs.YtojmnlbdhpledaaDoor

/- errors.As at a flaw around a number, the target a variable for a number; wire.number: contracts. -/
import Derived.Test.YtjplhiflemmkfaaGreatDoorAsF
namespace Go.Proofs.YtjplhiflemmkfaaGreatDoor
open Go.RowKit Go.Extern.Stop Go.Stop Go.Extern

/-- errors.errorType holds what package errors lays there. -/
def Glob (w : World) : Prop := w.cell? ⟨0, 0, none⟩ = some (.iface 284 (.agg #[.pointer (some ⟨2, 107, none⟩)]))
theorem keep_alloc {w : World} {o : Obj} {a : Addr} {u : Value} (h : w.cell? a = some u) : (w.alloc o).cell? a = some u := by
  rw [World.cell?_alloc_lt _ _ _ (blk_lt h)]; exact h
theorem Glob.alloc {w : World} (h : Glob w) (o : Obj) : Glob (w.alloc o) := keep_alloc h
theorem Glob.below {base : Nat} {w w' : World} (h : Glob w) (hb : Below base w w') (hz : 0 < base) : Glob w' := by
  unfold Glob; rw [hb.cell (p := ⟨0, 0, none⟩) hz]; exact h

set_option maxHeartbeats 400000 in
/-- errors.as, the error a flaw around a number, the target a variable for a number: it is set. -/
theorem as_flaw (n : Int) (b : Nat) (t a : Addr) (old : Value) (w : World) (hc : w.cell? ⟨b, 1, none⟩ = some (.iface 32 (.int .i64 n))) (ha : w.cell? a = some (.pointer (some t))) (ht0 : w.cell? t = some old) (hf0 : w.frozen? t = false) :
    Calls Tryz.prog 207 #[.iface 313 (.pointer (some ⟨b, 0, none⟩)), .iface 168 (.pointer (some t)), .agg #[.pointer (some ⟨2, 168, none⟩), .pointer (some a), .int .u64 150], .iface 284 (.agg #[.pointer (some ⟨2, 32, none⟩)])] w
      fun ev w' => ev = .returned (.bool true) ∧ w' = ((w.alloc (.cells #[.pointer (some ⟨2, 168, none⟩), .pointer (some a), .int .u64 150] 230)).alloc (.cells #[.int .i64 n] 32)).setCell t (.int .i64 n) := by
  have h10 := @run_callFunc_extern Tryz.prog 210 _ ReflectliteType.typeOf Tryz.func210 (by kernel_rfl) (by kernel_rfl) (by kernel_rfl) (by kernel_rfl)
  have h35 := @run_callFunc_extern Tryz.prog 359 _ (ReflectliteType.relation "AssignableTo" ReflectliteType.assignableTo) Tryz.func359 (by kernel_rfl) (by kernel_rfl) (by kernel_rfl) (by kernel_rfl)
  have h11 := @run_callFunc_extern Tryz.prog 256 _ (ReflectliteValue.method (ReflectliteValue.valueError "reflectlite.Value.Elem" 0) ReflectliteValue.elem) Tryz.func256 (by kernel_rfl) (by kernel_rfl) (by kernel_rfl) (by kernel_rfl)
  have h6 := @run_callFunc_extern Tryz.prog 204 _ (fun args => ReflectliteValue.unpack (args.getD 0 (.tuple #[]))) Tryz.func204 (by kernel_rfl) (by kernel_rfl) (by kernel_rfl) (by kernel_rfl)
  have h12 := @run_callFunc_extern Tryz.prog 257 _ ReflectliteValue.set Tryz.func257 (by kernel_rfl) (by kernel_rfl) (by kernel_rfl) (by kernel_rfl)
  have tO := Tryz.typeOfF
  have tO2 := Tryz.typeOfN
  have mA := Tryz.methodAssignableTo
  have mU := Tryz.methodUnwrap
  have aa := Tryz.asgFtoN
  have ab := Tryz.asgNtoN
  have v24 := Tryz.valueOfN
  have n1 := Tryz.noAsF
  have n2 := Tryz.hasF
  have hal := blk_lt ha
  have htl := blk_lt ht0
  have el := Tryz.elemVP a t (w.alloc (.cells #[.pointer (some ⟨2, 168, none⟩), .pointer (some a), .int .u64 150] 230)) (by rw [World.cell?_alloc_lt _ _ a hal]; exact ha)
  have st := Tryz.setN t ⟨w.heap.size + 1, 0, none⟩ n old ((w.alloc (.cells #[.pointer (some ⟨2, 168, none⟩), .pointer (some a), .int .u64 150] 230)).alloc (.cells #[.int .i64 n] 32))
    (by rw [World.cell?_alloc_at _ _ _ _ (by simp)]; rfl)
    (by rw [World.cell?_alloc_lt _ _ t (by simp; omega), World.cell?_alloc_lt _ _ t htl]; exact ht0)
    (by rw [World.frozen?_alloc_old _ _ t (by simp; omega), World.frozen?_alloc_old _ _ t (Nat.ne_of_lt htl)]; exact hf0)
  have hC : (w.alloc (.cells #[.pointer (some ⟨2, 168, none⟩), .pointer (some a), .int .u64 150] 230)).cell? ⟨b, 1, none⟩ = some (.iface 32 (.int .i64 n)) := keep_alloc hc
  clear hc
  go_enter Tryz.func207, Tryz.ntmps207
  go_wp2
  go_loopg [0] 1 (fun k v wr => wr = w.alloc (.cells #[.pointer (some ⟨2, 168, none⟩), .pointer (some a), .int .u64 150] 230) ∧ ((k = 1 ∧ v = .iface 313 (.pointer (some ⟨b, 0, none⟩))) ∨ (k = 0 ∧ v = .iface 32 (.int .i64 n))))
  case atStart => exact ⟨rfl, Or.inl ⟨rfl, rfl⟩⟩
  case round =>
    obtain ⟨rfl, ⟨hk, rfl⟩ | ⟨hk, rfl⟩⟩ := hrel
    · have HK := hide hk
      clear hk
      go_wp2
      go_roundg 0
      case measure => have := unhide HK; omega
      case rel => exact ⟨rfl, Or.inr ⟨rfl, rfl⟩⟩
    · clear hk
      go_wp2
      go_ret
      exact ⟨rfl, rfl⟩

set_option maxHeartbeats 1000000 in
/-- errors.As likewise. -/
theorem as_num (n : Int) (b : Nat) (t : Addr) (old : Value) (w : World) (hg : Glob w) (hc : w.cell? ⟨b, 1, none⟩ = some (.iface 32 (.int .i64 n))) (ht0 : w.cell? t = some old) (hf0 : w.frozen? t = false) :
    Calls Tryz.prog 137 #[.iface 313 (.pointer (some ⟨b, 0, none⟩)), .iface 168 (.pointer (some t))] w
      fun ev w' => ev = .returned (.bool true) ∧ w'.cell? t = some (.int .i64 n) ∧ Below t.block w w' := by
  have htl := blk_lt ht0
  have HC := hide (keep_alloc (o := .cells #[.pointer (some ⟨2, 168, none⟩), .pointer (some ⟨w.heap.size, 0, none⟩), .int .u64 150] 230) (keep_alloc (o := .cells #[.pointer (some t)] 168) hc))
  clear hc
  have h6 := @run_callFunc_extern Tryz.prog 204 _ (fun args => ReflectliteValue.unpack (args.getD 0 (.tuple #[]))) Tryz.func204 (by kernel_rfl) (by kernel_rfl) (by kernel_rfl) (by kernel_rfl)
  have h7 := @run_callFunc_extern Tryz.prog 205 _ (ReflectliteValue.methodAny (ReflectliteValue.valueError "reflectlite.Value.Type" 0) (fun t _ _ _ => ReflectliteType.toType t)) Tryz.func205 (by kernel_rfl) (by kernel_rfl) (by kernel_rfl) (by kernel_rfl)
  have h8 := @run_callFunc_extern Tryz.prog 206 _ (ReflectliteValue.method (ReflectliteValue.valueError "reflectlite.Value.IsNil" 0) ReflectliteValue.isNil) Tryz.func206 (by kernel_rfl) (by kernel_rfl) (by kernel_rfl) (by kernel_rfl)
  have h43 := @run_callFunc_extern Tryz.prog 342 _ (ReflectliteType.abiMethod fun t => do pure (.int .u8 (← Rtype.kind t))) Tryz.func342 (by kernel_rfl) (by kernel_rfl) (by kernel_rfl) (by kernel_rfl)
  have h56 := @run_callFunc_extern Tryz.prog 361 _ (ReflectliteType.method ReflectliteType.elem) Tryz.func361 (by kernel_rfl) (by kernel_rfl) (by kernel_rfl) (by kernel_rfl)
  have h57 := @run_callFunc_extern Tryz.prog 362 _ (ReflectliteType.relation "Implements" ReflectliteType.implements_) Tryz.func362 (by kernel_rfl) (by kernel_rfl) (by kernel_rfl) (by kernel_rfl)
  have f6 := Tryz.valueOfP
  have f7 := Tryz.typeP
  have mK := Tryz.methodKind
  have mE := Tryz.methodElem
  have mI := Tryz.methodImplements
  have k1 := Tryz.kindP
  have k2 := Tryz.kindN
  have e1 := Tryz.elemP
  have i1 := Tryz.implementsN
  have n8 := Tryz.isNilP ⟨w.heap.size, 0, none⟩ t ((w.alloc (.cells #[.pointer (some t)] 168)).alloc (.cells #[.pointer (some ⟨2, 168, none⟩), .pointer (some ⟨w.heap.size, 0, none⟩), .int .u64 150] 230)) (by simp)
  have hg2 : ((w.alloc (.cells #[.pointer (some t)] 168)).alloc (.cells #[.pointer (some ⟨2, 168, none⟩), .pointer (some ⟨w.heap.size, 0, none⟩), .int .u64 150] 230)).cell? ⟨0, 0, none⟩ = some (.iface 284 (.agg #[.pointer (some ⟨2, 107, none⟩)])) := (hg.alloc _).alloc _
  have hA : ((w.alloc (.cells #[.pointer (some t)] 168)).alloc (.cells #[.pointer (some ⟨2, 168, none⟩), .pointer (some ⟨w.heap.size, 0, none⟩), .int .u64 150] 230)).cell? ⟨w.heap.size, 0, none⟩ = some (.pointer (some t)) := by simp
  have hT : ((w.alloc (.cells #[.pointer (some t)] 168)).alloc (.cells #[.pointer (some ⟨2, 168, none⟩), .pointer (some ⟨w.heap.size, 0, none⟩), .int .u64 150] 230)).cell? t = some old := by
    rw [World.cell?_alloc_lt _ _ t (by simp; omega), World.cell?_alloc_lt _ _ t htl]; exact ht0
  have hF : ((w.alloc (.cells #[.pointer (some t)] 168)).alloc (.cells #[.pointer (some ⟨2, 168, none⟩), .pointer (some ⟨w.heap.size, 0, none⟩), .int .u64 150] 230)).frozen? t = false := by
    rw [World.frozen?_alloc_old _ _ t (by simp; omega), World.frozen?_alloc_old _ _ t (Nat.ne_of_lt htl)]; exact hf0
  have HT := hide hT
  have HF := hide hF
  have HA := hide hA
  clear hT hF hA ht0 hf0
  go_enter Tryz.func137, Tryz.ntmps137
  go_wp2_with (go_at_call 207; refine (as_flaw n b t _ old _ (unhide HC) (unhide HA) (unhide HT) (unhide HF)).mono ?_; rintro e w' ⟨rfl, rfl⟩)
  go_ret
  refine ⟨rfl, World.cell?_setCell_same _ t _ (u := old) ?_, ?_⟩
  · rw [World.cell?_alloc_lt _ _ t (by simp; omega), World.cell?_alloc_lt _ _ t (by simp; omega)]; exact unhide HT
  · exact (((((Below.refl _ w).alloc (by omega) _).alloc (by simp; omega) _).alloc (by simp; omega) _).alloc (by simp; omega) _).setCell (Nat.le_refl _) _

/-- the value ev is the error that is told by the number n; 0: none. -/
def Err (w : World) (ev : Value) (n : Nat) : Prop :=
  (n = 0 ∧ ev = .nilIface) ∨ ∃ b : Nat, n ≠ 0 ∧ ev = .iface 313 (.pointer (some ⟨b, 0, none⟩)) ∧ w.cell? ⟨b, 1, none⟩ = some (.iface 32 (.int .i64 (n : Int)))

theorem number_nil (w : World) : Calls Tryz.prog 219 #[.nilIface] w fun e w' => e = .returned (.int .i64 0) ∧ Below w.heap.size w w' := by
  go_enter Tryz.func219, Tryz.ntmps219
  go_wp2_with fail
  refine (as_nil _ _).mono ?_
  rintro e w1 ⟨rfl, rfl⟩
  go_wp2
  go_ret
  exact ⟨rfl, (Below.refl _ _).alloc (Nat.le_refl _) _⟩
theorem number_flaw (n : Int) (b : Nat) (w : World) (hg : Glob w) (hc : w.cell? ⟨b, 1, none⟩ = some (.iface 32 (.int .i64 n))) :
    Calls Tryz.prog 219 #[.iface 313 (.pointer (some ⟨b, 0, none⟩))] w fun e w' => e = .returned (.int .i64 n) ∧ Below w.heap.size w w' := by
  have HG := hide hg
  have HC := hide hc
  clear hg hc
  go_enter Tryz.func219, Tryz.ntmps219
  go_wp2_with fail
  refine (as_num n b ⟨w.heap.size, 0, none⟩ (.int .i64 0) _ ((unhide HG).alloc _) (keep_alloc (unhide HC)) (by simp) (by simp)).mono ?_
  rintro e w1 ⟨rfl, hc1, hb1⟩
  have HB := hide hb1
  clear hb1
  go_wp2
  go_ret
  exact ⟨rfl, ((Below.refl _ _).alloc (Nat.le_refl _) _).trans (unhide HB)⟩
theorem number_any (ev : Value) (n : Nat) (w : World) (hg : Glob w) (he : Err w ev n) :
    Calls Tryz.prog 219 #[ev] w fun e w' => e = .returned (.int .i64 n) ∧ Below w.heap.size w w' := by
  rcases he with ⟨rfl, rfl⟩ | ⟨b, _, rfl, hc⟩
  · exact number_nil w
  · exact number_flaw n b w hg hc
end Go.Proofs.YtjplhiflemmkfaaGreatDoor

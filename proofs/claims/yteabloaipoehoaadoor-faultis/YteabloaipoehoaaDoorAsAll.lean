/- errors.As at a target for a place and at a target for a number, along chains of places: contracts by what is kept. -/
import Derived.Test.YteabloaipoehoaaDoorChain
namespace Go.Proofs.YteabloaipoehoaaDoor
open Go.RowKit Go.Extern.Stop Go.Stop Go.Extern

set_option maxHeartbeats 400000 in
/-- errors.as, the error a chain over a plain text, the target a variable for a number: none. -/
theorem as24_plain (x : Value) (ps : List ByteArray) (v : Value) (t a : Value) (w : World) (hc : Chain w (.iface 62 x) ps v) :
    Calls Tryd.prog 24 #[v, t, .agg #[.pointer (some ⟨1, 35, none⟩), a, .int .u64 150], .iface 67 (.agg #[.pointer (some ⟨1, 24, none⟩)])] w
      fun ev w' => ev = .returned (.bool false) ∧ w' = (w.alloc (.cells #[.pointer (some ⟨1, 35, none⟩), a, .int .u64 150] 51)) := by
  have h10 := @run_callFunc_extern Tryd.prog 25 _ ReflectliteType.typeOf Tryd.func25 (by kernel_rfl) (by kernel_rfl) (by kernel_rfl) (by kernel_rfl)
  have h35 := @run_callFunc_extern Tryd.prog 54 _ (ReflectliteType.relation "AssignableTo" ReflectliteType.assignableTo) Tryd.func54 (by kernel_rfl) (by kernel_rfl) (by kernel_rfl) (by kernel_rfl)
  have tO := Tryd.typeOf44
  have tO2 := Tryd.typeOf62
  have mA := Tryd.methodAssignableTo
  have mU := Tryd.methodUnwrap
  have aa := Tryd.asg44to24
  have ab := Tryd.asg62to24
  have n1 := Tryd.noAs44
  have n2 := Tryd.has44
  have m1 := Tryd.noAs62
  have m2 := Tryd.no62
  have m3 := Tryd.nos62
  have hC : Hid (Chain (w.alloc (.cells #[.pointer (some ⟨1, 35, none⟩), a, .int .u64 150] 51)) (.iface 62 x) ps v) := hc.keep (keep_alloc _ _)
  clear hc
  go_enter Tryd.func24, Tryd.ntmps24
  go_wp2
  go_loopg [0] ps.length (fun k v wr => wr = w.alloc (.cells #[.pointer (some ⟨1, 35, none⟩), a, .int .u64 150] 51) ∧ ∃ qs, qs.length = k ∧ Chain wr (.iface 62 x) qs v)
  case atStart => exact ⟨rfl, ps, rfl, hC.out⟩
  case round =>
    obtain ⟨rfl, qs, hk, hq⟩ := hrel
    cases qs with
    | nil =>
      obtain rfl := hq
      clear hk
      go_wp2
      go_ret
      exact ⟨rfl, rfl⟩
    | cons q qs =>
      obtain ⟨b, u, rfl, c0, c1, hq⟩ := hq
      obtain ⟨T, y, rfl⟩ := hq.form (Or.inr ⟨x, rfl⟩)
      have HQ := Hid.out (p := Hid (Chain _ _ _ _)) hq
      have HK : Hid (qs.length < gk) := by simp at hk; unfold Hid; omega
      clear hq hk
      go_wp2
      go_roundg qs.length
      case measure => exact HK.out
      case rel => exact ⟨rfl, qs, rfl, HQ.out⟩

theorem hide {p : Prop} (h : p) : Hid p := h
theorem unhide {p : Prop} (h : Hid p) : p := h

/-- errors.errorType holds what package errors lays there. -/
def Glob (w : World) : Prop := w.cell? ⟨0, 0, none⟩ = some (.iface 67 (.agg #[.pointer (some ⟨1, 27, none⟩)]))
theorem Glob.below {w w' : World} (h : Glob w) (hb : Below w.heap.size w w') : Glob w' := keep_below hb _ _ _ h
theorem Glob.alloc {w : World} (h : Glob w) (o : Obj) : Glob (w.alloc o) := keep_alloc _ _ _ _ _ h


set_option maxHeartbeats 1000000 in
/-- errors.As, the error a place, the target a variable for a place: it is set. -/
theorem as_place (e t : Addr) (old : Value) (w : World) (hg : Glob w) (ht0 : w.cell? t = some old) (hf0 : w.frozen? t = false) :
    Calls Tryd.prog 16 #[.iface 44 (.pointer (some e)), .iface 65 (.pointer (some t))] w
      fun ev w' => ev = .returned (.bool true) ∧ w'.cell? t = some (.pointer (some e)) ∧ Below t.block w w' := by
  have h6 := @run_callFunc_extern Tryd.prog 21 _ (fun args => ReflectliteValue.unpack (args.getD 0 (.tuple #[]))) Tryd.func21 (by kernel_rfl) (by kernel_rfl) (by kernel_rfl) (by kernel_rfl)
  have h7 := @run_callFunc_extern Tryd.prog 22 _ (ReflectliteValue.methodAny (ReflectliteValue.valueError "reflectlite.Value.Type" 0) (fun t _ _ _ => ReflectliteType.toType t)) Tryd.func22 (by kernel_rfl) (by kernel_rfl) (by kernel_rfl) (by kernel_rfl)
  have h8 := @run_callFunc_extern Tryd.prog 23 _ (ReflectliteValue.method (ReflectliteValue.valueError "reflectlite.Value.IsNil" 0) ReflectliteValue.isNil) Tryd.func23 (by kernel_rfl) (by kernel_rfl) (by kernel_rfl) (by kernel_rfl)
  have h43 := @run_callFunc_extern Tryd.prog 43 _ (ReflectliteType.abiMethod fun t => do pure (.int .u8 (← Rtype.kind t))) Tryd.func43 (by kernel_rfl) (by kernel_rfl) (by kernel_rfl) (by kernel_rfl)
  have h56 := @run_callFunc_extern Tryd.prog 56 _ (ReflectliteType.method ReflectliteType.elem) Tryd.func56 (by kernel_rfl) (by kernel_rfl) (by kernel_rfl) (by kernel_rfl)
  have h57 := @run_callFunc_extern Tryd.prog 57 _ (ReflectliteType.relation "Implements" ReflectliteType.implements_) Tryd.func57 (by kernel_rfl) (by kernel_rfl) (by kernel_rfl) (by kernel_rfl)
  have f6 := Tryd.valueOf65
  have f7 := Tryd.type65
  have mK := Tryd.methodKind
  have mE := Tryd.methodElem
  have mI := Tryd.methodImplements
  have k65 := Tryd.kind65
  have k44 := Tryd.kind44
  have e65 := Tryd.elem65
  have i44 := Tryd.implements44
  have htl := blk_lt ht0
  have n8 := Tryd.isNil65 ⟨w.heap.size, 0, none⟩ t ((w.alloc (.cells #[.pointer (some t)] 65)).alloc (.cells #[.pointer (some ⟨1, 65, none⟩), .pointer (some ⟨w.heap.size, 0, none⟩), .int .u64 150] 51)) (by simp)
  have hg2 : ((w.alloc (.cells #[.pointer (some t)] 65)).alloc (.cells #[.pointer (some ⟨1, 65, none⟩), .pointer (some ⟨w.heap.size, 0, none⟩), .int .u64 150] 51)).cell? ⟨0, 0, none⟩ = some (.iface 67 (.agg #[.pointer (some ⟨1, 27, none⟩)])) := (hg.alloc _).alloc _
  have hA : ((w.alloc (.cells #[.pointer (some t)] 65)).alloc (.cells #[.pointer (some ⟨1, 65, none⟩), .pointer (some ⟨w.heap.size, 0, none⟩), .int .u64 150] 51)).cell? ⟨w.heap.size, 0, none⟩ = some (.pointer (some t)) := by simp
  have hT : ((w.alloc (.cells #[.pointer (some t)] 65)).alloc (.cells #[.pointer (some ⟨1, 65, none⟩), .pointer (some ⟨w.heap.size, 0, none⟩), .int .u64 150] 51)).cell? t = some old := by
    rw [World.cell?_alloc_lt _ _ t (by simp; omega), World.cell?_alloc_lt _ _ t htl]; exact ht0
  have hF : ((w.alloc (.cells #[.pointer (some t)] 65)).alloc (.cells #[.pointer (some ⟨1, 65, none⟩), .pointer (some ⟨w.heap.size, 0, none⟩), .int .u64 150] 51)).frozen? t = false := by
    rw [World.frozen?_alloc_old _ _ t (by simp; omega), World.frozen?_alloc_old _ _ t (Nat.ne_of_lt htl)]; exact hf0
  have HT := hide hT
  have HF := hide hF
  have HA := hide hA
  have H0 := hide ht0
  have HF0 := hide hf0
  clear hT hF hA ht0 hf0
  go_enter Tryd.func16, Tryd.ntmps16
  go_wp2_with (go_at_call 24; refine (as24_hit _ _ _ old _ (unhide HA) (unhide HT) (unhide HF)).mono ?_; rintro e w' ⟨rfl, rfl⟩)
  go_ret
  refine ⟨rfl, World.cell?_setCell_same _ t _ (u := old) ?_, ?_⟩
  · rw [World.cell?_alloc_lt _ _ t (by simp; omega), World.cell?_alloc_lt _ _ t (by simp; omega)]; exact unhide HT
  · exact (((((Below.refl _ w).alloc (by omega) _).alloc (by simp; omega) _).alloc (by simp; omega) _).alloc (by simp; omega) _).setCell (Nat.le_refl _) _
end Go.Proofs.YteabloaipoehoaaDoor

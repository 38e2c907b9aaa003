/- Errors as chains of places over a base; what errors.As does to a target of type Errno, along a whole chain. -/
import Derived.Test.YteabloaipoehoaaDoorAsW
namespace Go.Proofs.YteabloaipoehoaaDoor
open Go.RowKit Go.Extern.Stop Go.Stop Go.Extern

/-- the error v has the places ps, the outermost first, around bv. -/
def Chain (w : World) (bv : Value) : List ByteArray → Value → Prop
  | [], v => v = bv
  | p :: ps, v => ∃ b u, v = .iface 44 (.pointer (some ⟨b, 0, none⟩)) ∧ w.cell? ⟨b, 0, none⟩ = some (.string p) ∧ w.cell? ⟨b, 1, none⟩ = some u ∧ Chain w bv ps u

theorem Chain.keep {w w' : World} {bv : Value} : ∀ {ps : List ByteArray} {v : Value}, Chain w bv ps v → (∀ b o u, w.cell? ⟨b, o, none⟩ = some u → w'.cell? ⟨b, o, none⟩ = some u) → Chain w' bv ps v
  | [], _, h, _ => h
  | _ :: _, _, ⟨b, u, h1, h2, h3, h4⟩, k => ⟨b, u, h1, k _ _ _ h2, k _ _ _ h3, h4.keep k⟩

theorem keep_alloc (w : World) (o : Obj) : ∀ b i u, w.cell? ⟨b, i, none⟩ = some u → (w.alloc o).cell? ⟨b, i, none⟩ = some u := by
  intro b i u h
  rw [World.cell?_alloc_lt _ _ _ (blk_lt h)]; exact h

theorem keep_below {w w' : World} (h : Below w.heap.size w w') : ∀ b i u, w.cell? ⟨b, i, none⟩ = some u → w'.cell? ⟨b, i, none⟩ = some u := by
  intro b i u hc
  rw [h.cell (blk_lt hc)]; exact hc

/-- a base: a number or a plain text. -/
def Base (bv : Value) : Prop := (∃ n, bv = .iface 24 (.int .i64 n)) ∨ ∃ x, bv = .iface 62 x

theorem Chain.form {w : World} {bv : Value} (hb : Base bv) : ∀ {ps : List ByteArray} {v : Value}, Chain w bv ps v → ∃ T x, v = .iface T x
  | [], _, h => by
    rcases hb with ⟨n, rfl⟩ | ⟨x, rfl⟩
    · exact ⟨_, _, h⟩
    · exact ⟨_, _, h⟩
  | _ :: _, _, ⟨_, _, h1, _⟩ => ⟨_, _, h1⟩

set_option maxHeartbeats 400000 in
/-- errors.as, the error a chain over a number, the target a variable for a number: it is set. -/
theorem as24_errno (n : Int) (ps : List ByteArray) (v : Value) (t a : Addr) (old : Value) (w : World) (hc : Chain w (.iface 24 (.int .i64 n)) ps v) (ha : w.cell? a = some (.pointer (some t))) (ht0 : w.cell? t = some old) (hf0 : w.frozen? t = false) :
    Calls Tryd.prog 24 #[v, .iface 35 (.pointer (some t)), .agg #[.pointer (some ⟨1, 35, none⟩), .pointer (some a), .int .u64 150], .iface 67 (.agg #[.pointer (some ⟨1, 24, none⟩)])] w
      fun ev w' => ev = .returned (.bool true) ∧ w' = ((w.alloc (.cells #[.pointer (some ⟨1, 35, none⟩), .pointer (some a), .int .u64 150] 51)).alloc (.cells #[.int .i64 n] 24)).setCell t (.int .i64 n) := by
  have h10 := @run_callFunc_extern Tryd.prog 25 _ ReflectliteType.typeOf Tryd.func25 (by kernel_rfl) (by kernel_rfl) (by kernel_rfl) (by kernel_rfl)
  have h35 := @run_callFunc_extern Tryd.prog 54 _ (ReflectliteType.relation "AssignableTo" ReflectliteType.assignableTo) Tryd.func54 (by kernel_rfl) (by kernel_rfl) (by kernel_rfl) (by kernel_rfl)
  have h11 := @run_callFunc_extern Tryd.prog 27 _ (ReflectliteValue.method (ReflectliteValue.valueError "reflectlite.Value.Elem" 0) ReflectliteValue.elem) Tryd.func27 (by kernel_rfl) (by kernel_rfl) (by kernel_rfl) (by kernel_rfl)
  have h6 := @run_callFunc_extern Tryd.prog 21 _ (fun args => ReflectliteValue.unpack (args.getD 0 (.tuple #[]))) Tryd.func21 (by kernel_rfl) (by kernel_rfl) (by kernel_rfl) (by kernel_rfl)
  have h12 := @run_callFunc_extern Tryd.prog 28 _ ReflectliteValue.set Tryd.func28 (by kernel_rfl) (by kernel_rfl) (by kernel_rfl) (by kernel_rfl)
  have tO := Tryd.typeOf44
  have tO2 := Tryd.typeOf24
  have mA := Tryd.methodAssignableTo
  have mU := Tryd.methodUnwrap
  have aa := Tryd.asg44to24
  have ab := Tryd.asg24to24
  have v24 := Tryd.valueOf24
  have n1 := Tryd.noAs44
  have n2 := Tryd.has44
  have hal := blk_lt ha
  have htl := blk_lt ht0
  have el := Tryd.elemV35 a t (w.alloc (.cells #[.pointer (some ⟨1, 35, none⟩), .pointer (some a), .int .u64 150] 51)) (by rw [World.cell?_alloc_lt _ _ a hal]; exact ha)
  have st := Tryd.set24 t ⟨w.heap.size + 1, 0, none⟩ n old ((w.alloc (.cells #[.pointer (some ⟨1, 35, none⟩), .pointer (some a), .int .u64 150] 51)).alloc (.cells #[.int .i64 n] 24))
    (by rw [World.cell?_alloc_at _ _ _ _ (by simp)]; rfl)
    (by rw [World.cell?_alloc_lt _ _ t (by simp; omega), World.cell?_alloc_lt _ _ t htl]; exact ht0)
    (by rw [World.frozen?_alloc_old _ _ t (by simp; omega), World.frozen?_alloc_old _ _ t (Nat.ne_of_lt htl)]; exact hf0)
  have hC : Hid (Chain (w.alloc (.cells #[.pointer (some ⟨1, 35, none⟩), .pointer (some a), .int .u64 150] 51)) (.iface 24 (.int .i64 n)) ps v) := hc.keep (keep_alloc _ _)
  clear hc
  go_enter Tryd.func24, Tryd.ntmps24
  go_wp2
  go_loopg [0] ps.length (fun k v wr => wr = w.alloc (.cells #[.pointer (some ⟨1, 35, none⟩), .pointer (some a), .int .u64 150] 51) ∧ ∃ qs, qs.length = k ∧ Chain wr (.iface 24 (.int .i64 n)) qs v)
  case atStart => exact ⟨rfl, ps, rfl, hC.out⟩
  case round =>
    obtain ⟨rfl, qs, hk, hq⟩ := hrel
    cases qs with
    | nil =>
      obtain rfl := hq
      clear hk
      go_wp2
      go_ret
      exact ⟨rfl, rfl⟩
    | cons q qs =>
      obtain ⟨b, u, rfl, c0, c1, hq⟩ := hq
      obtain ⟨T, x, rfl⟩ := hq.form (Or.inl ⟨n, rfl⟩)
      have HQ := Hid.out (p := Hid (Chain _ _ _ _)) hq
      have HK : Hid (qs.length < gk) := by simp at hk; unfold Hid; omega
      clear hq hk
      go_wp2
      go_roundg qs.length
      case measure => exact HK.out
      case rel => exact ⟨rfl, qs, rfl, HQ.out⟩
end Go.Proofs.YteabloaipoehoaaDoor

/- errors.Is at numbers and at a refusal around one; accept.number: contracts. -/
import Derived.Test.YtijohafalcifpaaNBase
import Derived.LaidEql
namespace Go.Proofs.Ytijohafalcifpaa
open Go.RowKit Go.Extern.Stop Go.Stop Go.Extern

theorem Try.methodComparable (h : Value) (w : World) : (Go.method 229 86 (.agg #[h]) "Comparable").run Try.prog w = .ok (55, .agg #[h]) w := by kernel_rfl
theorem Try.methodUnwrapR (h : Value) (w : World) : (Go.method 229 75 h "Unwrap").run Try.prog w = .ok (51, h) w := by kernel_rfl
theorem Try.typeOfNum (v : Value) (w : World) : (ReflectliteType.typeOf #[.iface 36 v]).run Try.prog w = .ok (.iface 86 (.agg #[.pointer (some ⟨0, 36, none⟩)])) w := by kernel_rfl
theorem Try.noIsNum (v : Value) (xT : TypeId) (w : World) : (Instr.typeAssert (.iface 36 v) xT 88 true).run Try.prog w = .ok (.tuple #[.nilIface, .bool false]) w := run_typeAssert_lacksB Try.underlying88 (by kernel_rfl) (by kernel_rfl) v xT w
theorem Try.noUnNum (v : Value) (xT : TypeId) (w : World) : (Instr.typeAssert (.iface 36 v) xT 91 true).run Try.prog w = .ok (.tuple #[.nilIface, .bool false]) w := run_typeAssert_lacksB Try.underlying91 (by kernel_rfl) (by kernel_rfl) v xT w
theorem Try.noUnsNum (v : Value) (xT : TypeId) (w : World) : (Instr.typeAssert (.iface 36 v) xT 93 true).run Try.prog w = .ok (.tuple #[.nilIface, .bool false]) w := run_typeAssert_lacksB Try.underlying93 (by kernel_rfl) (by kernel_rfl) v xT w
theorem Try.noIsR (v : Value) (xT : TypeId) (w : World) : (Instr.typeAssert (.iface 75 v) xT 88 true).run Try.prog w = .ok (.tuple #[.nilIface, .bool false]) w := run_typeAssert_lacksB Try.underlying88 (by kernel_rfl) (by kernel_rfl) v xT w
theorem Try.hasUnR (v : Value) (xT : TypeId) (w : World) : (Instr.typeAssert (.iface 75 v) xT 91 true).run Try.prog w = .ok (.tuple #[.iface 75 v, .bool true]) w := run_typeAssert_hasB Try.underlying91 (by kernel_rfl) v xT w

section
variable {P : Program} (w : World)
theorem run_equalIn_num (d : Nat) {ti tn : TypeId} {ms : Array (String × TypeId)} {i : TypeInfo} {k : IntKind} (a b : Int)
    (hi : P.underlying ti = some (.interface ms)) (hn : P.underlying tn = some (.int k)) (hinfo : P.info? tn = some i) (hcomp : i.comparable = true) :
    (Op.equalIn (d + 2) ti (.iface tn (.int k a)) (.iface tn (.int k b))).run P w = .ok (a == b) w := by
  simp [Op.equalIn, run_underlying hi, run_underlying hn, typeInfo, hinfo, hcomp]
theorem run_eql_num {ti tn : TypeId} {ms : Array (String × TypeId)} {i : TypeInfo} {k : IntKind} (a b : Int)
    (hi : P.underlying ti = some (.interface ms)) (hn : P.underlying tn = some (.int k)) (hinfo : P.info? tn = some i) (hcomp : i.comparable = true) :
    (binOp .eql ti (.iface tn (.int k a)) (.iface tn (.int k b))).run P w = .ok (.bool (a == b)) w := by
  simp only [binOp]
  simp [Op.equal, Op.maxDepth, run_equalIn_num w 9998 a b hi hn hinfo hcomp]
end
theorem Try.compNum : (Try.prog.info? 36).map (·.comparable) = some true := by kernel_rfl
theorem eqlNum (a b : Int) (w : World) : (binOp .eql 68 (.iface 36 (.int .i64 a)) (.iface 36 (.int .i64 b))).run Try.prog w = .ok (.bool (a == b)) w := by
  obtain ⟨i, hi, hcmp⟩ := Option.map_eq_some_iff.1 Try.compNum
  exact run_eql_num w a b Try.underlying68 Try.underlying36 hi hcmp
theorem eqlRN (x y : Value) (w : World) : (binOp .eql 68 (.iface 75 x) (.iface 36 y)).run Try.prog w = .ok (.bool false) w :=
  run_eql_iface_types (P := Try.prog) 75 36 x y Try.underlying68 (by decide) w

/-- a refusal around a number. -/
def Ref (w : World) (b : Nat) (c : Int) : Prop := ∃ x, w.heap[b]? = some (.cells #[.int .i64 x, .iface 36 (.int .i64 c)] 77 (0, 0))
def refV (b : Nat) : Value := .iface 75 (.pointer (some ⟨b, 0, none⟩))

set_option maxHeartbeats 400000 in
theorem is_ref_num (n m : Int) (b : Nat) (w : World) (h : Ref w b n) : Calls Try.prog 33 #[refV b, .iface 36 (.int .i64 m), .bool true] w fun ev w' => ev = .returned (.bool (n == m)) ∧ w' = w := by
  have q1 := eqlRN
  have q2 := eqlNum
  have m1 := Try.noIsR
  have m2 := Try.hasUnR
  have m3 := Try.noIsNum
  have m4 := Try.noUnNum
  have m5 := Try.noUnsNum
  have m6 := Try.methodUnwrapR
  have c2 : w.cell? ⟨b, 1, none⟩ = some (.iface 36 (.int .i64 n)) := by obtain ⟨x, h⟩ := h; simp only [World.cell?]; rw [h]; rfl
  clear h
  unfold refV
  go_enter Try.func33, Try.ntmps33
  go_wp2
  go_loopg [0] 1 (fun k v wr => wr = w ∧ ((k = 1 ∧ v = .iface 75 (.pointer (some ⟨b, 0, none⟩))) ∨ v = .iface 36 (.int .i64 n)))
  case atStart => exact ⟨rfl, Or.inl ⟨rfl, rfl⟩⟩
  case round =>
    obtain ⟨rfl, ⟨rfl, rfl⟩ | rfl⟩ := hrel
    · go_wp2
      go_roundg 0
      case measure => decide
      case rel => exact ⟨rfl, Or.inr rfl⟩
    · cases hnm : (n == m) with
      | true =>
        go_wp2
        go_ret
        exact ⟨by rw [hnm]; rfl, rfl⟩
      | false =>
        go_wp2
        go_ret
        exact ⟨by rw [hnm]; rfl, rfl⟩
theorem comparableNum (w : World) : (callFunc 55 #[.agg #[.pointer (some ⟨0, 36, none⟩)]]).run Try.prog w = .ok (.value (.bool true)) w := by
  have h55 := @run_callFunc_extern Try.prog 55 _ (ReflectliteType.method fun t => do Rtype.noPackHeld "Comparable" t; pure (.bool (← typeInfo t).comparable)) Try.func55 (by kernel_rfl) (by kernel_rfl) (by kernel_rfl) (by kernel_rfl)
  rw [h55, show ((ReflectliteType.method fun t => do Rtype.noPackHeld "Comparable" t; pure (.bool (← typeInfo t).comparable)) #[.agg #[.pointer (some ⟨0, 36, none⟩)]]).run Try.prog w = .ok (.bool true) w by kernel_rfl]
  rfl
set_option maxRecDepth 20000 in
theorem Is_ref (n m : Int) (b : Nat) (w : World) (h : Ref w b n) : Calls Try.prog 30 #[refV b, .iface 36 (.int .i64 m)] w fun e w' => e = .returned (.bool (n == m)) ∧ w' = w := by
  have h10 := @run_callFunc_extern Try.prog 32 _ ReflectliteType.typeOf Try.func32 (by kernel_rfl) (by kernel_rfl) (by kernel_rfl) (by kernel_rfl)
  have tO := Try.typeOfNum
  have mC := Try.methodComparable
  have c24 := comparableNum
  have H := hide h
  clear h
  unfold refV
  go_enter Try.func30, Try.ntmps30
  go_wp2_with (go_at_call 33; refine (is_ref_num n m b _ (unhide H)).mono ?_; rintro e w' ⟨rfl, rfl⟩)
  go_ret
  exact ⟨rfl, rfl⟩
/-- the number of a refusal: 1, or else 19. -/
def numR (c : Int) : Int := if c = 1 then 1 else 19
theorem number_ref (c : Int) (b : Nat) (w : World) (h : Ref w b c) : Calls Try.prog 25 #[refV b] w fun e w' => e = .returned (.int .i64 (numR c)) ∧ w' = w := by
  have H := hide h
  clear h
  by_cases h1 : c = 1
  · subst h1
    go_enter Try.func25, Try.ntmps25
    go_wp2_with (go_at_call 30; refine (Is_ref 1 _ b _ (unhide H)).mono ?_; rintro e w' ⟨rfl, rfl⟩)
    go_ret
    exact ⟨rfl, rfl⟩
  · have e1 : (c == 1) = false := by simp [h1]
    have HN : Hid (numR c = 19) := by show _ = _; simp [numR, h1]
    clear h1
    go_enter Try.func25, Try.ntmps25
    go_wp2_with (go_at_call 30; refine (Is_ref c _ b _ (unhide H)).mono ?_; rintro e w' ⟨rfl, rfl⟩)
    go_ret
    exact ⟨by rw [unhide HN]; rfl, rfl⟩
theorem Ref.new (w : World) (x c : Int) {b : Nat} (hb : b = w.heap.size) : Ref (w.alloc (.cells #[.int .i64 x, .iface 36 (.int .i64 c)] 77)) b c := ⟨x, by rw [hb]; exact heap_alloc_new _ _⟩
end Go.Proofs.Ytijohafalcifpaa

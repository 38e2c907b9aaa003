/- errors.Is at numbers and at a refusal around one; link.number: contracts. -/
import Derived.Test.YtkanolmcaoecgaaNBase
import Derived.LaidEql
namespace Go.Proofs.Ytkanolmcaoecgaa
open Go.RowKit Go.Extern.Stop Go.Stop Go.Extern

theorem Try.methodComparable (h : Value) (w : World) : (Go.method 220 77 (.agg #[h]) "Comparable").run Try.prog w = .ok (51, .agg #[h]) w := by kernel_rfl
theorem Try.methodUnwrapR (h : Value) (w : World) : (Go.method 220 65 h "Unwrap").run Try.prog w = .ok (47, h) w := by kernel_rfl
theorem Try.typeOfNum (v : Value) (w : World) : (ReflectliteType.typeOf #[.iface 35 v]).run Try.prog w = .ok (.iface 77 (.agg #[.pointer (some ⟨0, 35, none⟩)])) w := by kernel_rfl
theorem Try.noIsNum (v : Value) (xT : TypeId) (w : World) : (Instr.typeAssert (.iface 35 v) xT 79 true).run Try.prog w = .ok (.tuple #[.nilIface, .bool false]) w := run_typeAssert_lacksB Try.underlying79 (by kernel_rfl) (by kernel_rfl) v xT w
theorem Try.noUnNum (v : Value) (xT : TypeId) (w : World) : (Instr.typeAssert (.iface 35 v) xT 82 true).run Try.prog w = .ok (.tuple #[.nilIface, .bool false]) w := run_typeAssert_lacksB Try.underlying82 (by kernel_rfl) (by kernel_rfl) v xT w
theorem Try.noUnsNum (v : Value) (xT : TypeId) (w : World) : (Instr.typeAssert (.iface 35 v) xT 84 true).run Try.prog w = .ok (.tuple #[.nilIface, .bool false]) w := run_typeAssert_lacksB Try.underlying84 (by kernel_rfl) (by kernel_rfl) v xT w
theorem Try.noIsR (v : Value) (xT : TypeId) (w : World) : (Instr.typeAssert (.iface 65 v) xT 79 true).run Try.prog w = .ok (.tuple #[.nilIface, .bool false]) w := run_typeAssert_lacksB Try.underlying79 (by kernel_rfl) (by kernel_rfl) v xT w
theorem Try.hasUnR (v : Value) (xT : TypeId) (w : World) : (Instr.typeAssert (.iface 65 v) xT 82 true).run Try.prog w = .ok (.tuple #[.iface 65 v, .bool true]) w := run_typeAssert_hasB Try.underlying82 (by kernel_rfl) v xT w

section
variable {P : Program} (w : World)
theorem run_equalIn_num (d : Nat) {ti tn : TypeId} {ms : Array (String × TypeId)} {i : TypeInfo} {k : IntKind} (a b : Int)
    (hi : P.underlying ti = some (.interface ms)) (hn : P.underlying tn = some (.int k)) (hinfo : P.info? tn = some i) (hcomp : i.comparable = true) :
    (Op.equalIn (d + 2) ti (.iface tn (.int k a)) (.iface tn (.int k b))).run P w = .ok (a == b) w := by
  simp [Op.equalIn, run_underlying hi, run_underlying hn, typeInfo, hinfo, hcomp]
theorem run_eql_num {ti tn : TypeId} {ms : Array (String × TypeId)} {i : TypeInfo} {k : IntKind} (a b : Int)
    (hi : P.underlying ti = some (.interface ms)) (hn : P.underlying tn = some (.int k)) (hinfo : P.info? tn = some i) (hcomp : i.comparable = true) :
    (binOp .eql ti (.iface tn (.int k a)) (.iface tn (.int k b))).run P w = .ok (.bool (a == b)) w := by
  simp only [binOp]
  simp [Op.equal, Op.maxDepth, run_equalIn_num w 9998 a b hi hn hinfo hcomp]
end
theorem Try.compNum : (Try.prog.info? 35).map (·.comparable) = some true := by kernel_rfl
theorem eqlNum (a b : Int) (w : World) : (binOp .eql 61 (.iface 35 (.int .i64 a)) (.iface 35 (.int .i64 b))).run Try.prog w = .ok (.bool (a == b)) w := by
  obtain ⟨i, hi, hcmp⟩ := Option.map_eq_some_iff.1 Try.compNum
  exact run_eql_num w a b Try.underlying61 Try.underlying35 hi hcmp
theorem eqlRN (x y : Value) (w : World) : (binOp .eql 61 (.iface 65 x) (.iface 35 y)).run Try.prog w = .ok (.bool false) w :=
  run_eql_iface_types (P := Try.prog) 65 35 x y Try.underlying61 (by decide) w

/-- a refusal around a number. -/
def Ref (w : World) (b : Nat) (c : Int) : Prop := ∃ x y, w.heap[b]? = some (.cells #[.int .i64 x, .int .i64 y, .iface 35 (.int .i64 c)] 67 (0, 0))
def refV (b : Nat) : Value := .iface 65 (.pointer (some ⟨b, 0, none⟩))

set_option maxHeartbeats 400000 in
theorem is_ref_num (n m : Int) (b : Nat) (w : World) (h : Ref w b n) : Calls Try.prog 29 #[refV b, .iface 35 (.int .i64 m), .bool true] w fun ev w' => ev = .returned (.bool (n == m)) ∧ w' = w := by
  have q1 := eqlRN
  have q2 := eqlNum
  have m1 := Try.noIsR
  have m2 := Try.hasUnR
  have m3 := Try.noIsNum
  have m4 := Try.noUnNum
  have m5 := Try.noUnsNum
  have m6 := Try.methodUnwrapR
  have c2 : w.cell? ⟨b, 2, none⟩ = some (.iface 35 (.int .i64 n)) := by obtain ⟨x, y, h⟩ := h; simp only [World.cell?]; rw [h]; rfl
  clear h
  unfold refV
  go_enter Try.func29, Try.ntmps29
  go_wp2
  go_loopg [0] 1 (fun k v wr => wr = w ∧ ((k = 1 ∧ v = .iface 65 (.pointer (some ⟨b, 0, none⟩))) ∨ v = .iface 35 (.int .i64 n)))
  case atStart => exact ⟨rfl, Or.inl ⟨rfl, rfl⟩⟩
  case round =>
    obtain ⟨rfl, ⟨rfl, rfl⟩ | rfl⟩ := hrel
    · go_wp2
      go_roundg 0
      case measure => decide
      case rel => exact ⟨rfl, Or.inr rfl⟩
    · cases hnm : (n == m) with
      | true =>
        go_wp2
        go_ret
        exact ⟨by rw [hnm]; rfl, rfl⟩
      | false =>
        go_wp2
        go_ret
        exact ⟨by rw [hnm]; rfl, rfl⟩
theorem comparableNum (w : World) : (callFunc 51 #[.agg #[.pointer (some ⟨0, 35, none⟩)]]).run Try.prog w = .ok (.value (.bool true)) w := by
  have h55 := @run_callFunc_extern Try.prog 51 _ (ReflectliteType.method fun t => do Rtype.noPackHeld "Comparable" t; pure (.bool (← typeInfo t).comparable)) Try.func51 (by kernel_rfl) (by kernel_rfl) (by kernel_rfl) (by kernel_rfl)
  rw [h55, show ((ReflectliteType.method fun t => do Rtype.noPackHeld "Comparable" t; pure (.bool (← typeInfo t).comparable)) #[.agg #[.pointer (some ⟨0, 35, none⟩)]]).run Try.prog w = .ok (.bool true) w by kernel_rfl]
  rfl
set_option maxRecDepth 20000 in
theorem Is_ref (n m : Int) (b : Nat) (w : World) (h : Ref w b n) : Calls Try.prog 24 #[refV b, .iface 35 (.int .i64 m)] w fun e w' => e = .returned (.bool (n == m)) ∧ w' = w := by
  have h10 := @run_callFunc_extern Try.prog 28 _ ReflectliteType.typeOf Try.func28 (by kernel_rfl) (by kernel_rfl) (by kernel_rfl) (by kernel_rfl)
  have tO := Try.typeOfNum
  have mC := Try.methodComparable
  have c24 := comparableNum
  have H := hide h
  clear h
  unfold refV
  go_enter Try.func24, Try.ntmps24
  go_wp2_with (go_at_call 29; refine (is_ref_num n m b _ (unhide H)).mono ?_; rintro e w' ⟨rfl, rfl⟩)
  go_ret
  exact ⟨rfl, rfl⟩
/-- the number of a refusal: 1, 19, or else 7. -/
def numR (c : Int) : Int := if c = 1 then 1 else if c = 19 then 19 else 7
theorem number_ref (c : Int) (b : Nat) (w : World) (h : Ref w b c) : Calls Try.prog 20 #[refV b] w fun e w' => e = .returned (.int .i64 (numR c)) ∧ w' = w := by
  have H := hide h
  clear h
  by_cases h1 : c = 1
  · subst h1
    go_enter Try.func20, Try.ntmps20
    go_wp2_with (go_at_call 24; refine (Is_ref 1 _ b _ (unhide H)).mono ?_; rintro e w' ⟨rfl, rfl⟩)
    go_ret
    exact ⟨rfl, rfl⟩
  · have e1 : (c == 1) = false := by simp [h1]
    by_cases h2 : c = 19
    · subst h2
      clear h1 e1
      go_enter Try.func20, Try.ntmps20
      go_wp2_with (go_at_call 24; refine (Is_ref 19 _ b _ (unhide H)).mono ?_; rintro e w' ⟨rfl, rfl⟩)
      go_ret
      exact ⟨rfl, rfl⟩
    · have e2 : (c == 19) = false := by simp [h2]
      have HN : Hid (numR c = 7) := by show _ = _; simp [numR, h1, h2]
      clear h1 h2
      go_enter Try.func20, Try.ntmps20
      go_wp2_with (go_at_call 24; refine (Is_ref c _ b _ (unhide H)).mono ?_; rintro e w' ⟨rfl, rfl⟩)
      go_ret
      exact ⟨by rw [unhide HN]; rfl, rfl⟩
end Go.Proofs.Ytkanolmcaoecgaa

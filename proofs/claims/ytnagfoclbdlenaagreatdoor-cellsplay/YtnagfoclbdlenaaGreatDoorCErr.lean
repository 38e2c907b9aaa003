/- errors.Is at a row's refusal; cells.number: contracts. -/
import Derived.Test.YtnagfoclbdlenaaGreatDoorTErrB
namespace Go.Proofs.YtnagfoclbdlenaaGreatDoor
open Go.RowKit Go.Extern.Stop Go.Stop Go.Extern

theorem Tryz.methodUnwrapC (h : Value) (w : World) : (Go.method 307 103 h "Unwrap").run Tryz.prog w = .ok (112, h) w := by kernel_rfl
theorem Tryz.noIsC (v : Value) (xT : TypeId) (w : World) : (Instr.typeAssert (.iface 103 v) xT 123 true).run Tryz.prog w = .ok (.tuple #[.nilIface, .bool false]) w := run_typeAssert_lacksB Tryz.underlying123 (by kernel_rfl) (by kernel_rfl) v xT w
theorem Tryz.hasUnC (v : Value) (xT : TypeId) (w : World) : (Instr.typeAssert (.iface 103 v) xT 126 true).run Tryz.prog w = .ok (.tuple #[.iface 103 v, .bool true]) w := run_typeAssert_hasB Tryz.underlying126 (by kernel_rfl) v xT w
theorem eqlCN (x y : Value) (w : World) : (binOp .eql 72 (.iface 103 x) (.iface 26 y)).run Tryz.prog w = .ok (.bool false) w :=
  run_eql_iface_types (P := Tryz.prog) 103 26 x y Tryz.underlying72 (by decide) w
/-- a refusal around a number. -/
def Rf (w : World) (b : Nat) (n : Int) : Prop := w.cell? ⟨b, 1, none⟩ = some (.iface 26 (.int .i64 n))

set_option maxHeartbeats 400000 in
theorem is_ref (n m : Int) (b : Nat) (w : World) (h : Rf w b n) : Calls Tryz.prog 50 #[.iface 103 (.pointer (some ⟨b, 0, none⟩)), .iface 26 (.int .i64 m), .bool true] w fun ev w' => ev = .returned (.bool (n == m)) ∧ w' = w := by
  have q1 := eqlCN
  have q2 := eqlNum n m
  have m1 := Tryz.noIsC
  have m2 := Tryz.hasUnC
  have m5 := Tryz.methodUnwrapC
  have m6 := Tryz.noIsNum
  have m7 := Tryz.noUnNum
  have m8 := Tryz.noUnsNum
  have c1 : w.cell? ⟨b, 1, none⟩ = some (.iface 26 (.int .i64 n)) := h
  clear h
  go_enter Tryz.func50, Tryz.ntmps50
  go_wp2
  go_loopg [0] 1 (fun k v wr => wr = w ∧ ((k = 1 ∧ v = .iface 103 (.pointer (some ⟨b, 0, none⟩))) ∨ v = .iface 26 (.int .i64 n)))
  case atStart => exact ⟨rfl, Or.inl ⟨rfl, rfl⟩⟩
  case round =>
    obtain ⟨rfl, ⟨rfl, rfl⟩ | rfl⟩ := hrel
    · go_wp2
      go_roundg 0
      case measure => decide
      case rel => exact ⟨rfl, Or.inr rfl⟩
    · cases hnm : (n == m) with
      | true =>
        go_wp2
        go_ret
        exact ⟨by rw [hnm]; rfl, rfl⟩
      | false =>
        go_wp2
        go_ret
        exact ⟨by rw [hnm]; rfl, rfl⟩
set_option maxRecDepth 20000 in
theorem Is_ref (n m : Int) (b : Nat) (w : World) (h : Rf w b n) : Calls Tryz.prog 39 #[.iface 103 (.pointer (some ⟨b, 0, none⟩)), .iface 26 (.int .i64 m)] w fun e w' => e = .returned (.bool (n == m)) ∧ w' = w := by
  have h10 := @run_callFunc_extern Tryz.prog 49 _ ReflectliteType.typeOf Tryz.func49 (by kernel_rfl) (by kernel_rfl) (by kernel_rfl) (by kernel_rfl)
  have tO := Tryz.typeOfNum
  have mC := Tryz.methodComparable
  have c24 := comparableNum
  have H := hide h
  clear h
  go_enter Tryz.func39, Tryz.ntmps39
  go_wp2_with (go_at_call 50; refine (is_ref n m b _ (unhide H)).mono ?_; rintro e w' ⟨rfl, rfl⟩)
  go_ret
  exact ⟨rfl, rfl⟩

/-- an error of put's, by its number: 0 none, 1 and 5 a row's refusal, 13 and 14 a tape's. -/
def ErrC (w : World) (ev : Value) (c : Nat) : Prop :=
  (c = 0 ∧ ev = .nilIface) ∨ (c = 13 ∧ ev = .iface 26 (.int .i64 13)) ∨ (c = 14 ∧ ev = .iface 26 (.int .i64 14)) ∨ (c = 1 ∧ ∃ b, ev = .iface 103 (.pointer (some ⟨b, 0, none⟩)) ∧ Rf w b 1) ∨ (c = 5 ∧ ∃ b, ev = .iface 103 (.pointer (some ⟨b, 0, none⟩)) ∧ Rf w b 5)
theorem cnumber_any (ev : Value) (c : Nat) (w : World) (h : ErrC w ev c) : Calls Tryz.prog 28 #[ev] w fun e w' => e = .returned (.int .i64 (c : Int)) ∧ w' = w := by
  rcases h with ⟨rfl, rfl⟩ | ⟨rfl, rfl⟩ | ⟨rfl, rfl⟩ | ⟨rfl, b, rfl, hg⟩ | ⟨rfl, b, rfl, hg⟩
  · go_enter Tryz.func28, Tryz.ntmps28
    go_wp2_with (go_at_call 39; refine (Is_nil _ _).mono ?_; rintro e w' ⟨rfl, rfl⟩)
    go_ret
    exact ⟨rfl, rfl⟩
  · go_enter Tryz.func28, Tryz.ntmps28
    go_wp2_with (go_at_call 39; refine (Is_num 13 _ _).mono ?_; rintro e w' ⟨rfl, rfl⟩)
    go_ret
    exact ⟨rfl, rfl⟩
  · go_enter Tryz.func28, Tryz.ntmps28
    go_wp2_with (go_at_call 39; refine (Is_num 14 _ _).mono ?_; rintro e w' ⟨rfl, rfl⟩)
    go_ret
    exact ⟨rfl, rfl⟩
  · have H := hide hg
    clear hg
    go_enter Tryz.func28, Tryz.ntmps28
    go_wp2_with (go_at_call 39; refine (Is_ref 1 _ b _ (unhide H)).mono ?_; rintro e w' ⟨rfl, rfl⟩)
    go_ret
    exact ⟨rfl, rfl⟩
  · have H := hide hg
    clear hg
    go_enter Tryz.func28, Tryz.ntmps28
    go_wp2_with (go_at_call 39; refine (Is_ref 5 _ b _ (unhide H)).mono ?_; rintro e w' ⟨rfl, rfl⟩)
    go_ret
    exact ⟨rfl, rfl⟩
end Go.Proofs.YtnagfoclbdlenaaGreatDoor

/- errors.Is whole; tape.stands, tape.number: contracts. -/
import Derived.Test.YtnagfoclbdlenaaGreatDoorTErr
namespace Go.Proofs.YtnagfoclbdlenaaGreatDoor
open Go.RowKit Go.Extern.Stop Go.Stop Go.Extern

theorem comparableNum (w : World) : (callFunc 117 #[.agg #[.pointer (some ⟨4, 26, none⟩)]]).run Tryz.prog w = .ok (.value (.bool true)) w := by
  have h55 := @run_callFunc_extern Tryz.prog 117 _ (ReflectliteType.method fun t => do Rtype.noPackHeld "Comparable" t; pure (.bool (← typeInfo t).comparable)) Tryz.func117 (by kernel_rfl) (by kernel_rfl) (by kernel_rfl) (by kernel_rfl)
  rw [h55, show ((ReflectliteType.method fun t => do Rtype.noPackHeld "Comparable" t; pure (.bool (← typeInfo t).comparable)) #[.agg #[.pointer (some ⟨4, 26, none⟩)]]).run Tryz.prog w = .ok (.bool true) w by kernel_rfl]
  rfl
theorem comparableStr (w : World) : (callFunc 117 #[.agg #[.pointer (some ⟨4, 175, none⟩)]]).run Tryz.prog w = .ok (.value (.bool true)) w := by
  have h55 := @run_callFunc_extern Tryz.prog 117 _ (ReflectliteType.method fun t => do Rtype.noPackHeld "Comparable" t; pure (.bool (← typeInfo t).comparable)) Tryz.func117 (by kernel_rfl) (by kernel_rfl) (by kernel_rfl) (by kernel_rfl)
  rw [h55, show ((ReflectliteType.method fun t => do Rtype.noPackHeld "Comparable" t; pure (.bool (← typeInfo t).comparable)) #[.agg #[.pointer (some ⟨4, 175, none⟩)]]).run Tryz.prog w = .ok (.bool true) w by kernel_rfl]
  rfl

/-- an error of a tape's, by its kind: 0 none, 1 a power that goes, else the number. -/
def ErrT (w : World) (a : Addr) (ev : Value) (c : Nat) : Prop :=
  (c = 0 ∧ ev = .nilIface) ∨ (c = 13 ∧ ev = .iface 26 (.int .i64 13)) ∨ (c = 14 ∧ ev = .iface 26 (.int .i64 14)) ∨ (c = 1 ∧ ∃ b, ev = .iface 137 (.pointer (some ⟨b, 0, none⟩)) ∧ Goes w a b)

/-- the variable that is listed. -/
def GlobT (w : World) (a : Addr) : Prop := w.cell? ⟨1, 0, none⟩ = some (.iface 175 (.pointer (some a)))

section
set_option maxRecDepth 20000 in
theorem Is_any (a : Addr) (ev : Value) (c : Nat) (w : World) (h : ErrT w a ev c) (hc : c ≠ 0) : Calls Tryz.prog 39 #[ev, .iface 175 (.pointer (some a))] w fun e w' => e = .returned (.bool (c == 1)) ∧ w' = w := by
  have h10 := @run_callFunc_extern Tryz.prog 49 _ ReflectliteType.typeOf Tryz.func49 (by kernel_rfl) (by kernel_rfl) (by kernel_rfl) (by kernel_rfl)
  have tO := Tryz.typeOfStr
  have mC := Tryz.methodComparable
  have c24 := comparableStr
  rcases h with ⟨rfl, _⟩ | ⟨rfl, rfl⟩ | ⟨rfl, rfl⟩ | ⟨rfl, b, rfl, hg⟩
  · exact absurd rfl hc
  · clear hc
    go_enter Tryz.func39, Tryz.ntmps39
    go_wp2_with (go_at_call 50; refine (is_num_str 13 a _).mono ?_; rintro e w' ⟨rfl, rfl⟩)
    go_ret
    exact ⟨rfl, rfl⟩
  · clear hc
    go_enter Tryz.func39, Tryz.ntmps39
    go_wp2_with (go_at_call 50; refine (is_num_str 14 a _).mono ?_; rintro e w' ⟨rfl, rfl⟩)
    go_ret
    exact ⟨rfl, rfl⟩
  · clear hc
    have H := hide hg
    clear hg
    go_enter Tryz.func39, Tryz.ntmps39
    go_wp2_with (go_at_call 50; refine (is_goes_str a b _ (unhide H)).mono ?_; rintro e w' ⟨rfl, rfl⟩)
    go_ret
    exact ⟨rfl, rfl⟩

set_option maxRecDepth 20000 in
theorem Is_nil (n : Int) (w : World) : Calls Tryz.prog 39 #[.nilIface, .iface 26 (.int .i64 n)] w fun e w' => e = .returned (.bool false) ∧ w' = w := by
  have q1 := run_eql_iface_nil_left (P := Tryz.prog) w 26 (.int .i64 n) Tryz.underlying72
  go_enter Tryz.func39, Tryz.ntmps39
  go_wp2
  go_ret
  exact ⟨rfl, rfl⟩
set_option maxRecDepth 20000 in
theorem Is_num (n m : Int) (w : World) : Calls Tryz.prog 39 #[.iface 26 (.int .i64 n), .iface 26 (.int .i64 m)] w fun e w' => e = .returned (.bool (n == m)) ∧ w' = w := by
  have h10 := @run_callFunc_extern Tryz.prog 49 _ ReflectliteType.typeOf Tryz.func49 (by kernel_rfl) (by kernel_rfl) (by kernel_rfl) (by kernel_rfl)
  have tO := Tryz.typeOfNum
  have mC := Tryz.methodComparable
  have c24 := comparableNum
  go_enter Tryz.func39, Tryz.ntmps39
  go_wp2_with (go_at_call 50; refine (is_num_num n m _).mono ?_; rintro e w' ⟨rfl, rfl⟩)
  go_ret
  exact ⟨rfl, rfl⟩
set_option maxRecDepth 20000 in
theorem Is_goes (a : Addr) (b : Nat) (w : World) (h : Goes w a b) : Calls Tryz.prog 39 #[.iface 137 (.pointer (some ⟨b, 0, none⟩)), .iface 26 (.int .i64 13)] w fun e w' => e = .returned (.bool true) ∧ w' = w := by
  have h10 := @run_callFunc_extern Tryz.prog 49 _ ReflectliteType.typeOf Tryz.func49 (by kernel_rfl) (by kernel_rfl) (by kernel_rfl) (by kernel_rfl)
  have tO := Tryz.typeOfNum
  have mC := Tryz.methodComparable
  have c24 := comparableNum
  have H := hide h
  clear h
  go_enter Tryz.func39, Tryz.ntmps39
  go_wp2_with (go_at_call 50; refine (is_goes_num a b _ (unhide H)).mono ?_; rintro e w' ⟨rfl, rfl⟩)
  go_ret
  exact ⟨rfl, rfl⟩
end

/-- the number that a face tells of an error. -/
def numOf (c : Nat) : Nat := if c = 0 then 0 else if c = 14 then 14 else 13

theorem tnumber_any (a : Addr) (ev : Value) (c : Nat) (w : World) (h : ErrT w a ev c) : Calls Tryz.prog 58 #[ev] w fun e w' => e = .returned (.int .i64 ((numOf c : Nat) : Int)) ∧ w' = w := by
  rcases h with ⟨rfl, rfl⟩ | ⟨rfl, rfl⟩ | ⟨rfl, rfl⟩ | ⟨rfl, b, rfl, hg⟩
  · go_enter Tryz.func58, Tryz.ntmps58
    go_wp2_with (go_at_call 39; refine (Is_nil _ _).mono ?_; rintro e w' ⟨rfl, rfl⟩)
    go_ret
    exact ⟨rfl, rfl⟩
  · go_enter Tryz.func58, Tryz.ntmps58
    go_wp2_with (go_at_call 39; refine (Is_num 13 _ _).mono ?_; rintro e w' ⟨rfl, rfl⟩)
    go_ret
    exact ⟨rfl, rfl⟩
  · go_enter Tryz.func58, Tryz.ntmps58
    go_wp2_with (go_at_call 39; refine (Is_num 14 _ _).mono ?_; rintro e w' ⟨rfl, rfl⟩)
    go_ret
    exact ⟨rfl, rfl⟩
  · have H := hide hg
    clear hg
    go_enter Tryz.func58, Tryz.ntmps58
    go_wp2_with (go_at_call 39; refine (Is_goes a b _ (unhide H)).mono ?_; rintro e w' ⟨rfl, rfl⟩)
    go_ret
    exact ⟨rfl, rfl⟩

end Go.Proofs.YtnagfoclbdlenaaGreatDoor

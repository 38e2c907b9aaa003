/- errors.Is whole; tape.stands, tape.number: contracts. -/
import Derived.Test.YtbfepfpocgijgaaDoorTErr
namespace Go.Proofs.YtbfepfpocgijgaaDoor
open Go.RowKit Go.Extern.Stop Go.Stop Go.Extern

theorem comparableNum (w : World) : (callFunc 85 #[.agg #[.pointer (some ⟨4, 25, none⟩)]]).run Tryd.prog w = .ok (.value (.bool true)) w := by
  have h55 := @run_callFunc_extern Tryd.prog 85 _ (ReflectliteType.method fun t => do Rtype.noPackHeld "Comparable" t; pure (.bool (← typeInfo t).comparable)) Tryd.func85 (by kernel_rfl) (by kernel_rfl) (by kernel_rfl) (by kernel_rfl)
  rw [h55, show ((ReflectliteType.method fun t => do Rtype.noPackHeld "Comparable" t; pure (.bool (← typeInfo t).comparable)) #[.agg #[.pointer (some ⟨4, 25, none⟩)]]).run Tryd.prog w = .ok (.bool true) w by kernel_rfl]
  rfl
theorem comparableStr (w : World) : (callFunc 85 #[.agg #[.pointer (some ⟨4, 125, none⟩)]]).run Tryd.prog w = .ok (.value (.bool true)) w := by
  have h55 := @run_callFunc_extern Tryd.prog 85 _ (ReflectliteType.method fun t => do Rtype.noPackHeld "Comparable" t; pure (.bool (← typeInfo t).comparable)) Tryd.func85 (by kernel_rfl) (by kernel_rfl) (by kernel_rfl) (by kernel_rfl)
  rw [h55, show ((ReflectliteType.method fun t => do Rtype.noPackHeld "Comparable" t; pure (.bool (← typeInfo t).comparable)) #[.agg #[.pointer (some ⟨4, 125, none⟩)]]).run Tryd.prog w = .ok (.bool true) w by kernel_rfl]
  rfl

/-- an error of a tape's, by its kind: 0 none, 1 a power that goes, else the number. -/
def ErrT (w : World) (a : Addr) (ev : Value) (c : Nat) : Prop :=
  (c = 0 ∧ ev = .nilIface) ∨ (c = 13 ∧ ev = .iface 25 (.int .i64 13)) ∨ (c = 14 ∧ ev = .iface 25 (.int .i64 14)) ∨ (c = 1 ∧ ∃ b, ev = .iface 90 (.pointer (some ⟨b, 0, none⟩)) ∧ Goes w a b)

/-- the variable that is listed. -/
def GlobT (w : World) (a : Addr) : Prop := w.cell? ⟨1, 0, none⟩ = some (.iface 125 (.pointer (some a)))

section
set_option maxRecDepth 20000 in
theorem Is_any (a : Addr) (ev : Value) (c : Nat) (w : World) (h : ErrT w a ev c) (hc : c ≠ 0) : Calls Tryd.prog 38 #[ev, .iface 125 (.pointer (some a))] w fun e w' => e = .returned (.bool (c == 1)) ∧ w' = w := by
  have h10 := @run_callFunc_extern Tryd.prog 46 _ ReflectliteType.typeOf Tryd.func46 (by kernel_rfl) (by kernel_rfl) (by kernel_rfl) (by kernel_rfl)
  have tO := Tryd.typeOfStr
  have mC := Tryd.methodComparable
  have c24 := comparableStr
  rcases h with ⟨rfl, _⟩ | ⟨rfl, rfl⟩ | ⟨rfl, rfl⟩ | ⟨rfl, b, rfl, hg⟩
  · exact absurd rfl hc
  · clear hc
    go_enter Tryd.func38, Tryd.ntmps38
    go_wp2_with (go_at_call 47; refine (is_num_str 13 a _).mono ?_; rintro e w' ⟨rfl, rfl⟩)
    go_ret
    exact ⟨rfl, rfl⟩
  · clear hc
    go_enter Tryd.func38, Tryd.ntmps38
    go_wp2_with (go_at_call 47; refine (is_num_str 14 a _).mono ?_; rintro e w' ⟨rfl, rfl⟩)
    go_ret
    exact ⟨rfl, rfl⟩
  · clear hc
    have H := hide hg
    clear hg
    go_enter Tryd.func38, Tryd.ntmps38
    go_wp2_with (go_at_call 47; refine (is_goes_str a b _ (unhide H)).mono ?_; rintro e w' ⟨rfl, rfl⟩)
    go_ret
    exact ⟨rfl, rfl⟩

set_option maxRecDepth 20000 in
theorem Is_nil (n : Int) (w : World) : Calls Tryd.prog 38 #[.nilIface, .iface 25 (.int .i64 n)] w fun e w' => e = .returned (.bool false) ∧ w' = w := by
  have q1 := run_eql_iface_nil_left (P := Tryd.prog) w 25 (.int .i64 n) Tryd.underlying60
  go_enter Tryd.func38, Tryd.ntmps38
  go_wp2
  go_ret
  exact ⟨rfl, rfl⟩
set_option maxRecDepth 20000 in
theorem Is_num (n m : Int) (w : World) : Calls Tryd.prog 38 #[.iface 25 (.int .i64 n), .iface 25 (.int .i64 m)] w fun e w' => e = .returned (.bool (n == m)) ∧ w' = w := by
  have h10 := @run_callFunc_extern Tryd.prog 46 _ ReflectliteType.typeOf Tryd.func46 (by kernel_rfl) (by kernel_rfl) (by kernel_rfl) (by kernel_rfl)
  have tO := Tryd.typeOfNum
  have mC := Tryd.methodComparable
  have c24 := comparableNum
  go_enter Tryd.func38, Tryd.ntmps38
  go_wp2_with (go_at_call 47; refine (is_num_num n m _).mono ?_; rintro e w' ⟨rfl, rfl⟩)
  go_ret
  exact ⟨rfl, rfl⟩
set_option maxRecDepth 20000 in
theorem Is_goes (a : Addr) (b : Nat) (w : World) (h : Goes w a b) : Calls Tryd.prog 38 #[.iface 90 (.pointer (some ⟨b, 0, none⟩)), .iface 25 (.int .i64 13)] w fun e w' => e = .returned (.bool true) ∧ w' = w := by
  have h10 := @run_callFunc_extern Tryd.prog 46 _ ReflectliteType.typeOf Tryd.func46 (by kernel_rfl) (by kernel_rfl) (by kernel_rfl) (by kernel_rfl)
  have tO := Tryd.typeOfNum
  have mC := Tryd.methodComparable
  have c24 := comparableNum
  have H := hide h
  clear h
  go_enter Tryd.func38, Tryd.ntmps38
  go_wp2_with (go_at_call 47; refine (is_goes_num a b _ (unhide H)).mono ?_; rintro e w' ⟨rfl, rfl⟩)
  go_ret
  exact ⟨rfl, rfl⟩
end

/-- the number that a face tells of an error. -/
def numOf (c : Nat) : Nat := if c = 0 then 0 else if c = 14 then 14 else 13

theorem tnumber_any (a : Addr) (ev : Value) (c : Nat) (w : World) (h : ErrT w a ev c) : Calls Tryd.prog 42 #[ev] w fun e w' => e = .returned (.int .i64 ((numOf c : Nat) : Int)) ∧ w' = w := by
  rcases h with ⟨rfl, rfl⟩ | ⟨rfl, rfl⟩ | ⟨rfl, rfl⟩ | ⟨rfl, b, rfl, hg⟩
  · go_enter Tryd.func42, Tryd.ntmps42
    go_wp2_with (go_at_call 38; refine (Is_nil _ _).mono ?_; rintro e w' ⟨rfl, rfl⟩)
    go_ret
    exact ⟨rfl, rfl⟩
  · go_enter Tryd.func42, Tryd.ntmps42
    go_wp2_with (go_at_call 38; refine (Is_num 13 _ _).mono ?_; rintro e w' ⟨rfl, rfl⟩)
    go_ret
    exact ⟨rfl, rfl⟩
  · go_enter Tryd.func42, Tryd.ntmps42
    go_wp2_with (go_at_call 38; refine (Is_num 14 _ _).mono ?_; rintro e w' ⟨rfl, rfl⟩)
    go_ret
    exact ⟨rfl, rfl⟩
  · have H := hide hg
    clear hg
    go_enter Tryd.func42, Tryd.ntmps42
    go_wp2_with (go_at_call 38; refine (Is_goes a b _ (unhide H)).mono ?_; rintro e w' ⟨rfl, rfl⟩)
    go_ret
    exact ⟨rfl, rfl⟩

theorem stands_any (a : Addr) (ev : Value) (c : Nat) (w : World) (h : ErrT w a ev c) (hG : GlobT w a) : Calls Tryd.prog 41 #[ev] w fun e w' => e = .returned (.bool (c == 0 || c == 1)) ∧ w' = w := by
  by_cases h0 : c = 0
  · obtain rfl : ev = .nilIface := by
      rcases h with ⟨_, rfl⟩ | ⟨rfl, _⟩ | ⟨rfl, _⟩ | ⟨rfl, _⟩
      · rfl
      all_goals cases h0
    subst h0
    clear h hG
    go_enter Tryd.func41, Tryd.ntmps41
    go_wp2
    go_ret
    exact ⟨rfl, rfl⟩
  · obtain ⟨T, x, rfl⟩ : ∃ T x, ev = .iface T x := by
      rcases h with ⟨rfl, _⟩ | ⟨_, rfl⟩ | ⟨_, rfl⟩ | ⟨_, b, rfl, _⟩
      · exact absurd rfl h0
      all_goals exact ⟨_, _, rfl⟩
    have hc : (c == 0 || c == 1) = (c == 1) := by simp [h0]
    have hg : w.cell? ⟨1, 0, none⟩ = some (.iface 125 (.pointer (some a))) := hG
    have H := hide h
    have H0 := hide h0
    have HC := hide hc
    clear h hG h0 hc
    go_enter Tryd.func41, Tryd.ntmps41
    go_wp2_with (go_at_call 38; refine (Is_any a _ c _ (unhide H) (unhide H0)).mono ?_; rintro e w' ⟨rfl, rfl⟩)
    go_ret
    refine ⟨?_, rfl⟩
    rw [unhide HC]; rfl
end Go.Proofs.YtbfepfpocgijgaaDoor

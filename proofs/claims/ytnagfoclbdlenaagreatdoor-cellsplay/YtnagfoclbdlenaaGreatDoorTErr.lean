/- errors.Is at numbers and at a power that goes; tape.stands, tape.number: contracts. -/
import Derived.Test.YtnagfoclbdlenaaGreatDoorSplitW
import Derived.LaidEql
namespace Go.Proofs.YtnagfoclbdlenaaGreatDoor
open Go.RowKit Go.Extern.Stop Go.Stop Go.Extern

theorem Tryz.methodComparable (h : Value) (w : World) : (Go.method 307 121 (.agg #[h]) "Comparable").run Tryz.prog w = .ok (117, .agg #[h]) w := by kernel_rfl
theorem Tryz.methodUnwrapM (h : Value) (w : World) : (Go.method 307 137 h "Unwrap").run Tryz.prog w = .ok (128, h) w := by kernel_rfl
theorem Tryz.methodIs (h : Value) (w : World) : (Go.method 307 137 h "Is").run Tryz.prog w = .ok (127, h) w := by kernel_rfl
theorem Tryz.typeOfNum (v : Value) (w : World) : (ReflectliteType.typeOf #[.iface 26 v]).run Tryz.prog w = .ok (.iface 121 (.agg #[.pointer (some ⟨4, 26, none⟩)])) w := by kernel_rfl
theorem Tryz.typeOfStr (v : Value) (w : World) : (ReflectliteType.typeOf #[.iface 175 v]).run Tryz.prog w = .ok (.iface 121 (.agg #[.pointer (some ⟨4, 175, none⟩)])) w := by kernel_rfl
theorem Tryz.noIsNum (v : Value) (xT : TypeId) (w : World) : (Instr.typeAssert (.iface 26 v) xT 123 true).run Tryz.prog w = .ok (.tuple #[.nilIface, .bool false]) w := run_typeAssert_lacksB Tryz.underlying123 (by kernel_rfl) (by kernel_rfl) v xT w
theorem Tryz.noUnNum (v : Value) (xT : TypeId) (w : World) : (Instr.typeAssert (.iface 26 v) xT 126 true).run Tryz.prog w = .ok (.tuple #[.nilIface, .bool false]) w := run_typeAssert_lacksB Tryz.underlying126 (by kernel_rfl) (by kernel_rfl) v xT w
theorem Tryz.noUnsNum (v : Value) (xT : TypeId) (w : World) : (Instr.typeAssert (.iface 26 v) xT 128 true).run Tryz.prog w = .ok (.tuple #[.nilIface, .bool false]) w := run_typeAssert_lacksB Tryz.underlying128 (by kernel_rfl) (by kernel_rfl) v xT w
theorem Tryz.hasIs (v : Value) (xT : TypeId) (w : World) : (Instr.typeAssert (.iface 137 v) xT 123 true).run Tryz.prog w = .ok (.tuple #[.iface 137 v, .bool true]) w := run_typeAssert_hasB Tryz.underlying123 (by kernel_rfl) v xT w
theorem Tryz.hasUn (v : Value) (xT : TypeId) (w : World) : (Instr.typeAssert (.iface 137 v) xT 126 true).run Tryz.prog w = .ok (.tuple #[.iface 137 v, .bool true]) w := run_typeAssert_hasB Tryz.underlying126 (by kernel_rfl) v xT w

section
variable {P : Program} (w : World)
theorem run_equalIn_num (d : Nat) {ti tn : TypeId} {ms : Array (String × TypeId)} {i : TypeInfo} {k : IntKind} (a b : Int)
    (hi : P.underlying ti = some (.interface ms)) (hn : P.underlying tn = some (.int k)) (hinfo : P.info? tn = some i) (hcomp : i.comparable = true) :
    (Op.equalIn (d + 2) ti (.iface tn (.int k a)) (.iface tn (.int k b))).run P w = .ok (a == b) w := by
  simp [Op.equalIn, run_underlying hi, run_underlying hn, typeInfo, hinfo, hcomp]
theorem run_eql_num {ti tn : TypeId} {ms : Array (String × TypeId)} {i : TypeInfo} {k : IntKind} (a b : Int)
    (hi : P.underlying ti = some (.interface ms)) (hn : P.underlying tn = some (.int k)) (hinfo : P.info? tn = some i) (hcomp : i.comparable = true) :
    (binOp .eql ti (.iface tn (.int k a)) (.iface tn (.int k b))).run P w = .ok (.bool (a == b)) w := by
  simp only [binOp]
  simp [Op.equal, Op.maxDepth, run_equalIn_num w 9998 a b hi hn hinfo hcomp]
end
theorem Tryz.compNum : (Tryz.prog.info? 26).map (·.comparable) = some true := by kernel_rfl
theorem Tryz.compStr : (Tryz.prog.info? 175).map (·.comparable) = some true := by kernel_rfl
theorem Tryz.infoStr : (Tryz.prog.info? 195).isSome = true := by kernel_rfl
theorem eqlNum (a b : Int) (w : World) : (binOp .eql 72 (.iface 26 (.int .i64 a)) (.iface 26 (.int .i64 b))).run Tryz.prog w = .ok (.bool (a == b)) w := by
  obtain ⟨i, hi, hcmp⟩ := Option.map_eq_some_iff.1 Tryz.compNum
  exact run_eql_num w a b Tryz.underlying72 Tryz.underlying26 hi hcmp
theorem eqlStr (a : Addr) (w : World) : (binOp .eql 72 (.iface 175 (.pointer (some a))) (.iface 175 (.pointer (some a)))).run Tryz.prog w = .ok (.bool true) w := by
  obtain ⟨i, hi, hcmp⟩ := Option.map_eq_some_iff.1 Tryz.compStr
  obtain ⟨j, hj⟩ := Option.isSome_iff_exists.1 Tryz.infoStr
  exact run_eql_iface_ptr_same w a Tryz.underlying72 Tryz.underlying175 hi hcmp hj
theorem eqlMN (x y : Value) (w : World) : (binOp .eql 72 (.iface 137 x) (.iface 26 y)).run Tryz.prog w = .ok (.bool false) w :=
  run_eql_iface_types (P := Tryz.prog) 137 26 x y Tryz.underlying72 (by decide) w
theorem eqlMS (x y : Value) (w : World) : (binOp .eql 72 (.iface 137 x) (.iface 175 y)).run Tryz.prog w = .ok (.bool false) w :=
  run_eql_iface_types (P := Tryz.prog) 137 175 x y Tryz.underlying72 (by decide) w
theorem eqlNS (x y : Value) (w : World) : (binOp .eql 72 (.iface 26 x) (.iface 175 y)).run Tryz.prog w = .ok (.bool false) w :=
  run_eql_iface_types (P := Tryz.prog) 26 175 x y Tryz.underlying72 (by decide) w

/-- an error of a tape's: none, a number, or a power that goes (around the number 13). -/
def goesV (a : Addr) : Value := .iface 175 (.pointer (some a))
def Goes (w : World) (a : Addr) (b : Nat) : Prop := w.heap[b]? = some (.cells #[.iface 175 (.pointer (some a)), .iface 26 (.int .i64 13)] 139 (0, 0))

set_option maxHeartbeats 400000 in
theorem is_num_num (n m : Int) (w : World) : Calls Tryz.prog 50 #[.iface 26 (.int .i64 n), .iface 26 (.int .i64 m), .bool true] w fun ev w' => ev = .returned (.bool (n == m)) ∧ w' = w := by
  have q1 := eqlNum
  have m1 := Tryz.noIsNum
  have m2 := Tryz.noUnNum
  have m3 := Tryz.noUnsNum
  go_enter Tryz.func50, Tryz.ntmps50
  go_wp2
  go_loopg [0] 0 (fun k v wr => wr = w ∧ v = .iface 26 (.int .i64 n))
  case atStart => exact ⟨rfl, rfl⟩
  case round =>
    obtain ⟨rfl, rfl⟩ := hrel
    cases hnm : (n == m) with
    | true =>
      go_wp2
      go_ret
      exact ⟨by rw [hnm]; rfl, rfl⟩
    | false =>
      go_wp2
      go_ret
      exact ⟨by rw [hnm]; rfl, rfl⟩

set_option maxHeartbeats 400000 in
theorem is_num_str (n : Int) (a : Addr) (w : World) : Calls Tryz.prog 50 #[.iface 26 (.int .i64 n), .iface 175 (.pointer (some a)), .bool true] w fun ev w' => ev = .returned (.bool false) ∧ w' = w := by
  have q1 := eqlNS
  have m1 := Tryz.noIsNum
  have m2 := Tryz.noUnNum
  have m3 := Tryz.noUnsNum
  go_enter Tryz.func50, Tryz.ntmps50
  go_wp2
  go_loopg [0] 0 (fun k v wr => wr = w ∧ v = .iface 26 (.int .i64 n))
  case atStart => exact ⟨rfl, rfl⟩
  case round =>
    obtain ⟨rfl, rfl⟩ := hrel
    go_wp2
    go_ret
    exact ⟨rfl, rfl⟩

theorem mIs_str (a : Addr) (b : Nat) (w : World) (h : Goes w a b) : Calls Tryz.prog 127 #[.pointer (some ⟨b, 0, none⟩), .iface 175 (.pointer (some a))] w fun ev w' => ev = .returned (.bool true) ∧ w' = w := by
  have q1 := eqlStr a
  have c0 : w.cell? ⟨b, 0, none⟩ = some (.iface 175 (.pointer (some a))) := by simp only [World.cell?]; rw [show w.heap[b]? = _ from h]; rfl
  clear h
  go_enter Tryz.func127, Tryz.ntmps127
  go_wp2
  go_ret
  exact ⟨rfl, rfl⟩
theorem mIs_num (a : Addr) (b : Nat) (n : Int) (w : World) (h : Goes w a b) : Calls Tryz.prog 127 #[.pointer (some ⟨b, 0, none⟩), .iface 26 (.int .i64 n)] w fun ev w' => ev = .returned (.bool false) ∧ w' = w := by
  have q1 := eqlNS
  have c0 : w.cell? ⟨b, 0, none⟩ = some (.iface 175 (.pointer (some a))) := by simp only [World.cell?]; rw [show w.heap[b]? = _ from h]; rfl
  clear h
  go_enter Tryz.func127, Tryz.ntmps127
  go_wp2
  go_ret
  exact ⟨rfl, rfl⟩

set_option maxHeartbeats 400000 in
theorem is_goes_str (a : Addr) (b : Nat) (w : World) (h : Goes w a b) : Calls Tryz.prog 50 #[.iface 137 (.pointer (some ⟨b, 0, none⟩)), .iface 175 (.pointer (some a)), .bool true] w fun ev w' => ev = .returned (.bool true) ∧ w' = w := by
  have q1 := eqlMS
  have m1 := Tryz.hasIs
  have m4 := Tryz.methodIs
  have H := hide h
  clear h
  go_enter Tryz.func50, Tryz.ntmps50
  go_wp2
  go_loopg [0] 0 (fun k v wr => wr = w ∧ v = .iface 137 (.pointer (some ⟨b, 0, none⟩)))
  case atStart => exact ⟨rfl, rfl⟩
  case round =>
    obtain ⟨rfl, rfl⟩ := hrel
    go_wp2_with (go_at_call 127; refine (mIs_str a b _ (unhide H)).mono ?_; rintro e w' ⟨rfl, rfl⟩)
    go_ret
    exact ⟨rfl, rfl⟩

set_option maxHeartbeats 400000 in
theorem is_goes_num (a : Addr) (b : Nat) (w : World) (h : Goes w a b) : Calls Tryz.prog 50 #[.iface 137 (.pointer (some ⟨b, 0, none⟩)), .iface 26 (.int .i64 13), .bool true] w fun ev w' => ev = .returned (.bool true) ∧ w' = w := by
  have q1 := eqlMN
  have q2 := eqlNum 13 13
  have m1 := Tryz.hasIs
  have m2 := Tryz.hasUn
  have m4 := Tryz.methodIs
  have m5 := Tryz.methodUnwrapM
  have c1 : w.cell? ⟨b, 1, none⟩ = some (.iface 26 (.int .i64 13)) := by simp only [World.cell?]; rw [show w.heap[b]? = _ from h]; rfl
  have H := hide h
  clear h
  go_enter Tryz.func50, Tryz.ntmps50
  go_wp2
  go_loopg [0] 1 (fun k v wr => wr = w ∧ ((k = 1 ∧ v = .iface 137 (.pointer (some ⟨b, 0, none⟩))) ∨ v = .iface 26 (.int .i64 13)))
  case atStart => exact ⟨rfl, Or.inl ⟨rfl, rfl⟩⟩
  case round =>
    obtain ⟨rfl, ⟨rfl, rfl⟩ | rfl⟩ := hrel
    · go_wp2_with fail
      refine (mIs_num a b 13 _ (unhide H)).mono ?_
      rintro e w' ⟨rfl, rfl⟩
      go_wp2
      go_roundg 0
      case measure => decide
      case rel => exact ⟨rfl, Or.inr rfl⟩
    · go_wp2
      go_ret
      exact ⟨rfl, rfl⟩

end Go.Proofs.YtnagfoclbdlenaaGreatDoor

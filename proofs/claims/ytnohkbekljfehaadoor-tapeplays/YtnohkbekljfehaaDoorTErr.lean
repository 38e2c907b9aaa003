/- errors.Is at numbers and at a power that goes; tape.stands, tape.number: contracts. -/
import Derived.Test.YtnohkbekljfehaaDoorTBase
import Derived.LaidEql
namespace Go.Proofs.YtnohkbekljfehaaDoor
open Go.RowKit Go.Extern.Stop Go.Stop Go.Extern

theorem Tryd.methodComparable (h : Value) (w : World) : (Go.method 214 68 (.agg #[h]) "Comparable").run Tryd.prog w = .ok (57, .agg #[h]) w := by kernel_rfl
theorem Tryd.methodUnwrap (h : Value) (w : World) : (Go.method 214 59 h "Unwrap").run Tryd.prog w = .ok (53, h) w := by kernel_rfl
theorem Tryd.methodIs (h : Value) (w : World) : (Go.method 214 59 h "Is").run Tryd.prog w = .ok (52, h) w := by kernel_rfl
theorem Tryd.typeOfNum (v : Value) (w : World) : (ReflectliteType.typeOf #[.iface 25 v]).run Tryd.prog w = .ok (.iface 68 (.agg #[.pointer (some ⟨1, 25, none⟩)])) w := by kernel_rfl
theorem Tryd.typeOfStr (v : Value) (w : World) : (ReflectliteType.typeOf #[.iface 77 v]).run Tryd.prog w = .ok (.iface 68 (.agg #[.pointer (some ⟨1, 77, none⟩)])) w := by kernel_rfl
theorem Tryd.noIsNum (v : Value) (xT : TypeId) (w : World) : (Instr.typeAssert (.iface 25 v) xT 70 true).run Tryd.prog w = .ok (.tuple #[.nilIface, .bool false]) w := run_typeAssert_lacksB Tryd.underlying70 (by kernel_rfl) (by kernel_rfl) v xT w
theorem Tryd.noUnNum (v : Value) (xT : TypeId) (w : World) : (Instr.typeAssert (.iface 25 v) xT 72 true).run Tryd.prog w = .ok (.tuple #[.nilIface, .bool false]) w := run_typeAssert_lacksB Tryd.underlying72 (by kernel_rfl) (by kernel_rfl) v xT w
theorem Tryd.noUnsNum (v : Value) (xT : TypeId) (w : World) : (Instr.typeAssert (.iface 25 v) xT 74 true).run Tryd.prog w = .ok (.tuple #[.nilIface, .bool false]) w := run_typeAssert_lacksB Tryd.underlying74 (by kernel_rfl) (by kernel_rfl) v xT w
theorem Tryd.hasIs (v : Value) (xT : TypeId) (w : World) : (Instr.typeAssert (.iface 59 v) xT 70 true).run Tryd.prog w = .ok (.tuple #[.iface 59 v, .bool true]) w := run_typeAssert_hasB Tryd.underlying70 (by kernel_rfl) v xT w
theorem Tryd.hasUn (v : Value) (xT : TypeId) (w : World) : (Instr.typeAssert (.iface 59 v) xT 72 true).run Tryd.prog w = .ok (.tuple #[.iface 59 v, .bool true]) w := run_typeAssert_hasB Tryd.underlying72 (by kernel_rfl) v xT w

section
variable {P : Program} (w : World)
theorem run_equalIn_num (d : Nat) {ti tn : TypeId} {ms : Array (String × TypeId)} {i : TypeInfo} {k : IntKind} (a b : Int)
    (hi : P.underlying ti = some (.interface ms)) (hn : P.underlying tn = some (.int k)) (hinfo : P.info? tn = some i) (hcomp : i.comparable = true) :
    (Op.equalIn (d + 2) ti (.iface tn (.int k a)) (.iface tn (.int k b))).run P w = .ok (a == b) w := by
  simp [Op.equalIn, run_underlying hi, run_underlying hn, typeInfo, hinfo, hcomp]
theorem run_eql_num {ti tn : TypeId} {ms : Array (String × TypeId)} {i : TypeInfo} {k : IntKind} (a b : Int)
    (hi : P.underlying ti = some (.interface ms)) (hn : P.underlying tn = some (.int k)) (hinfo : P.info? tn = some i) (hcomp : i.comparable = true) :
    (binOp .eql ti (.iface tn (.int k a)) (.iface tn (.int k b))).run P w = .ok (.bool (a == b)) w := by
  simp only [binOp]
  simp [Op.equal, Op.maxDepth, run_equalIn_num w 9998 a b hi hn hinfo hcomp]
end
theorem Tryd.compNum : (Tryd.prog.info? 25).map (·.comparable) = some true := by kernel_rfl
theorem Tryd.compStr : (Tryd.prog.info? 77).map (·.comparable) = some true := by kernel_rfl
theorem Tryd.infoStr : (Tryd.prog.info? 102).isSome = true := by kernel_rfl
theorem eqlNum (a b : Int) (w : World) : (binOp .eql 54 (.iface 25 (.int .i64 a)) (.iface 25 (.int .i64 b))).run Tryd.prog w = .ok (.bool (a == b)) w := by
  obtain ⟨i, hi, hcmp⟩ := Option.map_eq_some_iff.1 Tryd.compNum
  exact run_eql_num w a b Tryd.underlying54 Tryd.underlying25 hi hcmp
theorem eqlStr (a : Addr) (w : World) : (binOp .eql 54 (.iface 77 (.pointer (some a))) (.iface 77 (.pointer (some a)))).run Tryd.prog w = .ok (.bool true) w := by
  obtain ⟨i, hi, hcmp⟩ := Option.map_eq_some_iff.1 Tryd.compStr
  obtain ⟨j, hj⟩ := Option.isSome_iff_exists.1 Tryd.infoStr
  exact run_eql_iface_ptr_same w a Tryd.underlying54 Tryd.underlying77 hi hcmp hj
theorem eqlMN (x y : Value) (w : World) : (binOp .eql 54 (.iface 59 x) (.iface 25 y)).run Tryd.prog w = .ok (.bool false) w :=
  run_eql_iface_types (P := Tryd.prog) 59 25 x y Tryd.underlying54 (by decide) w
theorem eqlMS (x y : Value) (w : World) : (binOp .eql 54 (.iface 59 x) (.iface 77 y)).run Tryd.prog w = .ok (.bool false) w :=
  run_eql_iface_types (P := Tryd.prog) 59 77 x y Tryd.underlying54 (by decide) w
theorem eqlNS (x y : Value) (w : World) : (binOp .eql 54 (.iface 25 x) (.iface 77 y)).run Tryd.prog w = .ok (.bool false) w :=
  run_eql_iface_types (P := Tryd.prog) 25 77 x y Tryd.underlying54 (by decide) w

/-- an error of a tape's: none, a number, or a power that goes (around the number 13). -/
def goesV (a : Addr) : Value := .iface 77 (.pointer (some a))
def Goes (w : World) (a : Addr) (b : Nat) : Prop := w.heap[b]? = some (.cells #[.iface 77 (.pointer (some a)), .iface 25 (.int .i64 13)] 61 (0, 0))

set_option maxHeartbeats 400000 in
theorem is_num_num (n m : Int) (w : World) : Calls Tryd.prog 34 #[.iface 25 (.int .i64 n), .iface 25 (.int .i64 m), .bool true] w fun ev w' => ev = .returned (.bool (n == m)) ∧ w' = w := by
  have q1 := eqlNum
  have m1 := Tryd.noIsNum
  have m2 := Tryd.noUnNum
  have m3 := Tryd.noUnsNum
  go_enter Tryd.func34, Tryd.ntmps34
  go_wp2
  go_loopg [0] 0 (fun k v wr => wr = w ∧ v = .iface 25 (.int .i64 n))
  case atStart => exact ⟨rfl, rfl⟩
  case round =>
    obtain ⟨rfl, rfl⟩ := hrel
    cases hnm : (n == m) with
    | true =>
      go_wp2
      go_ret
      exact ⟨by rw [hnm]; rfl, rfl⟩
    | false =>
      go_wp2
      go_ret
      exact ⟨by rw [hnm]; rfl, rfl⟩

set_option maxHeartbeats 400000 in
theorem is_num_str (n : Int) (a : Addr) (w : World) : Calls Tryd.prog 34 #[.iface 25 (.int .i64 n), .iface 77 (.pointer (some a)), .bool true] w fun ev w' => ev = .returned (.bool false) ∧ w' = w := by
  have q1 := eqlNS
  have m1 := Tryd.noIsNum
  have m2 := Tryd.noUnNum
  have m3 := Tryd.noUnsNum
  go_enter Tryd.func34, Tryd.ntmps34
  go_wp2
  go_loopg [0] 0 (fun k v wr => wr = w ∧ v = .iface 25 (.int .i64 n))
  case atStart => exact ⟨rfl, rfl⟩
  case round =>
    obtain ⟨rfl, rfl⟩ := hrel
    go_wp2
    go_ret
    exact ⟨rfl, rfl⟩

theorem mIs_str (a : Addr) (b : Nat) (w : World) (h : Goes w a b) : Calls Tryd.prog 52 #[.pointer (some ⟨b, 0, none⟩), .iface 77 (.pointer (some a))] w fun ev w' => ev = .returned (.bool true) ∧ w' = w := by
  have q1 := eqlStr a
  have c0 : w.cell? ⟨b, 0, none⟩ = some (.iface 77 (.pointer (some a))) := by simp only [World.cell?]; rw [show w.heap[b]? = _ from h]; rfl
  clear h
  go_enter Tryd.func52, Tryd.ntmps52
  go_wp2
  go_ret
  exact ⟨rfl, rfl⟩
theorem mIs_num (a : Addr) (b : Nat) (n : Int) (w : World) (h : Goes w a b) : Calls Tryd.prog 52 #[.pointer (some ⟨b, 0, none⟩), .iface 25 (.int .i64 n)] w fun ev w' => ev = .returned (.bool false) ∧ w' = w := by
  have q1 := eqlNS
  have c0 : w.cell? ⟨b, 0, none⟩ = some (.iface 77 (.pointer (some a))) := by simp only [World.cell?]; rw [show w.heap[b]? = _ from h]; rfl
  clear h
  go_enter Tryd.func52, Tryd.ntmps52
  go_wp2
  go_ret
  exact ⟨rfl, rfl⟩

set_option maxHeartbeats 400000 in
theorem is_goes_str (a : Addr) (b : Nat) (w : World) (h : Goes w a b) : Calls Tryd.prog 34 #[.iface 59 (.pointer (some ⟨b, 0, none⟩)), .iface 77 (.pointer (some a)), .bool true] w fun ev w' => ev = .returned (.bool true) ∧ w' = w := by
  have q1 := eqlMS
  have m1 := Tryd.hasIs
  have m4 := Tryd.methodIs
  have H := hide h
  clear h
  go_enter Tryd.func34, Tryd.ntmps34
  go_wp2
  go_loopg [0] 0 (fun k v wr => wr = w ∧ v = .iface 59 (.pointer (some ⟨b, 0, none⟩)))
  case atStart => exact ⟨rfl, rfl⟩
  case round =>
    obtain ⟨rfl, rfl⟩ := hrel
    go_wp2_with (go_at_call 52; refine (mIs_str a b _ (unhide H)).mono ?_; rintro e w' ⟨rfl, rfl⟩)
    go_ret
    exact ⟨rfl, rfl⟩

set_option maxHeartbeats 400000 in
theorem is_goes_num (a : Addr) (b : Nat) (w : World) (h : Goes w a b) : Calls Tryd.prog 34 #[.iface 59 (.pointer (some ⟨b, 0, none⟩)), .iface 25 (.int .i64 13), .bool true] w fun ev w' => ev = .returned (.bool true) ∧ w' = w := by
  have q1 := eqlMN
  have q2 := eqlNum 13 13
  have m1 := Tryd.hasIs
  have m2 := Tryd.hasUn
  have m4 := Tryd.methodIs
  have m5 := Tryd.methodUnwrap
  have c1 : w.cell? ⟨b, 1, none⟩ = some (.iface 25 (.int .i64 13)) := by simp only [World.cell?]; rw [show w.heap[b]? = _ from h]; rfl
  have H := hide h
  clear h
  go_enter Tryd.func34, Tryd.ntmps34
  go_wp2
  go_loopg [0] 1 (fun k v wr => wr = w ∧ ((k = 1 ∧ v = .iface 59 (.pointer (some ⟨b, 0, none⟩))) ∨ v = .iface 25 (.int .i64 13)))
  case atStart => exact ⟨rfl, Or.inl ⟨rfl, rfl⟩⟩
  case round =>
    obtain ⟨rfl, ⟨rfl, rfl⟩ | rfl⟩ := hrel
    · go_wp2_with fail
      refine (mIs_num a b 13 _ (unhide H)).mono ?_
      rintro e w' ⟨rfl, rfl⟩
      go_wp2
      go_roundg 0
      case measure => decide
      case rel => exact ⟨rfl, Or.inr rfl⟩
    · go_wp2
      go_ret
      exact ⟨rfl, rfl⟩

end Go.Proofs.YtnohkbekljfehaaDoor

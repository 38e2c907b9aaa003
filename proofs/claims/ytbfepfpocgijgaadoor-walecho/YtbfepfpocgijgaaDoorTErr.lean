/- errors.Is at numbers and at a power that goes; tape.stands, tape.number: contracts. -/
import Derived.Test.YtbfepfpocgijgaaDoorSplitW
import Derived.LaidEql
namespace Go.Proofs.YtbfepfpocgijgaaDoor
open Go.RowKit Go.Extern.Stop Go.Stop Go.Extern

theorem Tryd.methodComparable (h : Value) (w : World) : (Go.method 257 100 (.agg #[h]) "Comparable").run Tryd.prog w = .ok (85, .agg #[h]) w := by kernel_rfl
theorem Tryd.methodUnwrapM (h : Value) (w : World) : (Go.method 257 90 h "Unwrap").run Tryd.prog w = .ok (80, h) w := by kernel_rfl
theorem Tryd.methodIs (h : Value) (w : World) : (Go.method 257 90 h "Is").run Tryd.prog w = .ok (79, h) w := by kernel_rfl
theorem Tryd.typeOfNum (v : Value) (w : World) : (ReflectliteType.typeOf #[.iface 25 v]).run Tryd.prog w = .ok (.iface 100 (.agg #[.pointer (some ⟨4, 25, none⟩)])) w := by kernel_rfl
theorem Tryd.typeOfStr (v : Value) (w : World) : (ReflectliteType.typeOf #[.iface 125 v]).run Tryd.prog w = .ok (.iface 100 (.agg #[.pointer (some ⟨4, 125, none⟩)])) w := by kernel_rfl
theorem Tryd.noIsNum (v : Value) (xT : TypeId) (w : World) : (Instr.typeAssert (.iface 25 v) xT 102 true).run Tryd.prog w = .ok (.tuple #[.nilIface, .bool false]) w := run_typeAssert_lacksB Tryd.underlying102 (by kernel_rfl) (by kernel_rfl) v xT w
theorem Tryd.noUnNum (v : Value) (xT : TypeId) (w : World) : (Instr.typeAssert (.iface 25 v) xT 104 true).run Tryd.prog w = .ok (.tuple #[.nilIface, .bool false]) w := run_typeAssert_lacksB Tryd.underlying104 (by kernel_rfl) (by kernel_rfl) v xT w
theorem Tryd.noUnsNum (v : Value) (xT : TypeId) (w : World) : (Instr.typeAssert (.iface 25 v) xT 106 true).run Tryd.prog w = .ok (.tuple #[.nilIface, .bool false]) w := run_typeAssert_lacksB Tryd.underlying106 (by kernel_rfl) (by kernel_rfl) v xT w
theorem Tryd.hasIs (v : Value) (xT : TypeId) (w : World) : (Instr.typeAssert (.iface 90 v) xT 102 true).run Tryd.prog w = .ok (.tuple #[.iface 90 v, .bool true]) w := run_typeAssert_hasB Tryd.underlying102 (by kernel_rfl) v xT w
theorem Tryd.hasUn (v : Value) (xT : TypeId) (w : World) : (Instr.typeAssert (.iface 90 v) xT 104 true).run Tryd.prog w = .ok (.tuple #[.iface 90 v, .bool true]) w := run_typeAssert_hasB Tryd.underlying104 (by kernel_rfl) v xT w

section
variable {P : Program} (w : World)
theorem run_equalIn_num (d : Nat) {ti tn : TypeId} {ms : Array (String × TypeId)} {i : TypeInfo} {k : IntKind} (a b : Int)
    (hi : P.underlying ti = some (.interface ms)) (hn : P.underlying tn = some (.int k)) (hinfo : P.info? tn = some i) (hcomp : i.comparable = true) :
    (Op.equalIn (d + 2) ti (.iface tn (.int k a)) (.iface tn (.int k b))).run P w = .ok (a == b) w := by
  simp [Op.equalIn, run_underlying hi, run_underlying hn, typeInfo, hinfo, hcomp]
theorem run_eql_num {ti tn : TypeId} {ms : Array (String × TypeId)} {i : TypeInfo} {k : IntKind} (a b : Int)
    (hi : P.underlying ti = some (.interface ms)) (hn : P.underlying tn = some (.int k)) (hinfo : P.info? tn = some i) (hcomp : i.comparable = true) :
    (binOp .eql ti (.iface tn (.int k a)) (.iface tn (.int k b))).run P w = .ok (.bool (a == b)) w := by
  simp only [binOp]
  simp [Op.equal, Op.maxDepth, run_equalIn_num w 9998 a b hi hn hinfo hcomp]
end
theorem Tryd.compNum : (Tryd.prog.info? 25).map (·.comparable) = some true := by kernel_rfl
theorem Tryd.compStr : (Tryd.prog.info? 125).map (·.comparable) = some true := by kernel_rfl
theorem Tryd.infoStr : (Tryd.prog.info? 145).isSome = true := by kernel_rfl
theorem eqlNum (a b : Int) (w : World) : (binOp .eql 60 (.iface 25 (.int .i64 a)) (.iface 25 (.int .i64 b))).run Tryd.prog w = .ok (.bool (a == b)) w := by
  obtain ⟨i, hi, hcmp⟩ := Option.map_eq_some_iff.1 Tryd.compNum
  exact run_eql_num w a b Tryd.underlying60 Tryd.underlying25 hi hcmp
theorem eqlStr (a : Addr) (w : World) : (binOp .eql 60 (.iface 125 (.pointer (some a))) (.iface 125 (.pointer (some a)))).run Tryd.prog w = .ok (.bool true) w := by
  obtain ⟨i, hi, hcmp⟩ := Option.map_eq_some_iff.1 Tryd.compStr
  obtain ⟨j, hj⟩ := Option.isSome_iff_exists.1 Tryd.infoStr
  exact run_eql_iface_ptr_same w a Tryd.underlying60 Tryd.underlying125 hi hcmp hj
theorem eqlMN (x y : Value) (w : World) : (binOp .eql 60 (.iface 90 x) (.iface 25 y)).run Tryd.prog w = .ok (.bool false) w :=
  run_eql_iface_types (P := Tryd.prog) 90 25 x y Tryd.underlying60 (by decide) w
theorem eqlMS (x y : Value) (w : World) : (binOp .eql 60 (.iface 90 x) (.iface 125 y)).run Tryd.prog w = .ok (.bool false) w :=
  run_eql_iface_types (P := Tryd.prog) 90 125 x y Tryd.underlying60 (by decide) w
theorem eqlNS (x y : Value) (w : World) : (binOp .eql 60 (.iface 25 x) (.iface 125 y)).run Tryd.prog w = .ok (.bool false) w :=
  run_eql_iface_types (P := Tryd.prog) 25 125 x y Tryd.underlying60 (by decide) w

/-- an error of a tape's: none, a number, or a power that goes (around the number 13). -/
def goesV (a : Addr) : Value := .iface 125 (.pointer (some a))
def Goes (w : World) (a : Addr) (b : Nat) : Prop := w.heap[b]? = some (.cells #[.iface 125 (.pointer (some a)), .iface 25 (.int .i64 13)] 92 (0, 0))

set_option maxHeartbeats 400000 in
theorem is_num_num (n m : Int) (w : World) : Calls Tryd.prog 47 #[.iface 25 (.int .i64 n), .iface 25 (.int .i64 m), .bool true] w fun ev w' => ev = .returned (.bool (n == m)) ∧ w' = w := by
  have q1 := eqlNum
  have m1 := Tryd.noIsNum
  have m2 := Tryd.noUnNum
  have m3 := Tryd.noUnsNum
  go_enter Tryd.func47, Tryd.ntmps47
  go_wp2
  go_loopg [0] 0 (fun k v wr => wr = w ∧ v = .iface 25 (.int .i64 n))
  case atStart => exact ⟨rfl, rfl⟩
  case round =>
    obtain ⟨rfl, rfl⟩ := hrel
    cases hnm : (n == m) with
    | true =>
      go_wp2
      go_ret
      exact ⟨by rw [hnm]; rfl, rfl⟩
    | false =>
      go_wp2
      go_ret
      exact ⟨by rw [hnm]; rfl, rfl⟩

set_option maxHeartbeats 400000 in
theorem is_num_str (n : Int) (a : Addr) (w : World) : Calls Tryd.prog 47 #[.iface 25 (.int .i64 n), .iface 125 (.pointer (some a)), .bool true] w fun ev w' => ev = .returned (.bool false) ∧ w' = w := by
  have q1 := eqlNS
  have m1 := Tryd.noIsNum
  have m2 := Tryd.noUnNum
  have m3 := Tryd.noUnsNum
  go_enter Tryd.func47, Tryd.ntmps47
  go_wp2
  go_loopg [0] 0 (fun k v wr => wr = w ∧ v = .iface 25 (.int .i64 n))
  case atStart => exact ⟨rfl, rfl⟩
  case round =>
    obtain ⟨rfl, rfl⟩ := hrel
    go_wp2
    go_ret
    exact ⟨rfl, rfl⟩

theorem mIs_str (a : Addr) (b : Nat) (w : World) (h : Goes w a b) : Calls Tryd.prog 79 #[.pointer (some ⟨b, 0, none⟩), .iface 125 (.pointer (some a))] w fun ev w' => ev = .returned (.bool true) ∧ w' = w := by
  have q1 := eqlStr a
  have c0 : w.cell? ⟨b, 0, none⟩ = some (.iface 125 (.pointer (some a))) := by simp only [World.cell?]; rw [show w.heap[b]? = _ from h]; rfl
  clear h
  go_enter Tryd.func79, Tryd.ntmps79
  go_wp2
  go_ret
  exact ⟨rfl, rfl⟩
theorem mIs_num (a : Addr) (b : Nat) (n : Int) (w : World) (h : Goes w a b) : Calls Tryd.prog 79 #[.pointer (some ⟨b, 0, none⟩), .iface 25 (.int .i64 n)] w fun ev w' => ev = .returned (.bool false) ∧ w' = w := by
  have q1 := eqlNS
  have c0 : w.cell? ⟨b, 0, none⟩ = some (.iface 125 (.pointer (some a))) := by simp only [World.cell?]; rw [show w.heap[b]? = _ from h]; rfl
  clear h
  go_enter Tryd.func79, Tryd.ntmps79
  go_wp2
  go_ret
  exact ⟨rfl, rfl⟩

set_option maxHeartbeats 400000 in
theorem is_goes_str (a : Addr) (b : Nat) (w : World) (h : Goes w a b) : Calls Tryd.prog 47 #[.iface 90 (.pointer (some ⟨b, 0, none⟩)), .iface 125 (.pointer (some a)), .bool true] w fun ev w' => ev = .returned (.bool true) ∧ w' = w := by
  have q1 := eqlMS
  have m1 := Tryd.hasIs
  have m4 := Tryd.methodIs
  have H := hide h
  clear h
  go_enter Tryd.func47, Tryd.ntmps47
  go_wp2
  go_loopg [0] 0 (fun k v wr => wr = w ∧ v = .iface 90 (.pointer (some ⟨b, 0, none⟩)))
  case atStart => exact ⟨rfl, rfl⟩
  case round =>
    obtain ⟨rfl, rfl⟩ := hrel
    go_wp2_with (go_at_call 79; refine (mIs_str a b _ (unhide H)).mono ?_; rintro e w' ⟨rfl, rfl⟩)
    go_ret
    exact ⟨rfl, rfl⟩

set_option maxHeartbeats 400000 in
theorem is_goes_num (a : Addr) (b : Nat) (w : World) (h : Goes w a b) : Calls Tryd.prog 47 #[.iface 90 (.pointer (some ⟨b, 0, none⟩)), .iface 25 (.int .i64 13), .bool true] w fun ev w' => ev = .returned (.bool true) ∧ w' = w := by
  have q1 := eqlMN
  have q2 := eqlNum 13 13
  have m1 := Tryd.hasIs
  have m2 := Tryd.hasUn
  have m4 := Tryd.methodIs
  have m5 := Tryd.methodUnwrapM
  have c1 : w.cell? ⟨b, 1, none⟩ = some (.iface 25 (.int .i64 13)) := by simp only [World.cell?]; rw [show w.heap[b]? = _ from h]; rfl
  have H := hide h
  clear h
  go_enter Tryd.func47, Tryd.ntmps47
  go_wp2
  go_loopg [0] 1 (fun k v wr => wr = w ∧ ((k = 1 ∧ v = .iface 90 (.pointer (some ⟨b, 0, none⟩))) ∨ v = .iface 25 (.int .i64 13)))
  case atStart => exact ⟨rfl, Or.inl ⟨rfl, rfl⟩⟩
  case round =>
    obtain ⟨rfl, ⟨rfl, rfl⟩ | rfl⟩ := hrel
    · go_wp2_with fail
      refine (mIs_num a b 13 _ (unhide H)).mono ?_
      rintro e w' ⟨rfl, rfl⟩
      go_wp2
      go_roundg 0
      case measure => decide
      case rel => exact ⟨rfl, Or.inr rfl⟩
    · go_wp2
      go_ret
      exact ⟨rfl, rfl⟩

end Go.Proofs.YtbfepfpocgijgaaDoor

/- errors.Is at chains of places over a number, the target a number. -/
import Derived.Test.YteabloaipoehoaaDoorAsAll
namespace Go.Proofs.YteabloaipoehoaaDoor
open Go.RowKit Go.Extern.Stop Go.Stop Go.Extern

section
variable {P : Program} (w : World)
theorem run_equalIn_num (d : Nat) {ti tn : TypeId} {ms : Array (String × TypeId)} {i : TypeInfo} {k : IntKind} (a b : Int)
    (hi : P.underlying ti = some (.interface ms)) (hn : P.underlying tn = some (.int k)) (hinfo : P.info? tn = some i) (hcomp : i.comparable = true) :
    (Op.equalIn (d + 2) ti (.iface tn (.int k a)) (.iface tn (.int k b))).run P w = .ok (a == b) w := by
  simp [Op.equalIn, run_underlying hi, run_underlying hn, typeInfo, hinfo, hcomp]
theorem run_eql_num {ti tn : TypeId} {ms : Array (String × TypeId)} {i : TypeInfo} {k : IntKind} (a b : Int)
    (hi : P.underlying ti = some (.interface ms)) (hn : P.underlying tn = some (.int k)) (hinfo : P.info? tn = some i) (hcomp : i.comparable = true) :
    (binOp .eql ti (.iface tn (.int k a)) (.iface tn (.int k b))).run P w = .ok (.bool (a == b)) w := by
  simp only [binOp]
  simp [Op.equal, Op.maxDepth, run_equalIn_num w 9998 a b hi hn hinfo hcomp]
end

theorem Tryd.comp24 : (Tryd.prog.info? 24).map (·.comparable) = some true := by kernel_rfl
theorem eql24 (a b : Int) (w : World) : (binOp .eql 27 (.iface 24 (.int .i64 a)) (.iface 24 (.int .i64 b))).run Tryd.prog w = .ok (.bool (a == b)) w := by
  obtain ⟨i, hi, hcmp⟩ := Option.map_eq_some_iff.1 Tryd.comp24
  exact run_eql_num w a b Tryd.underlying27 Tryd.underlying24 hi hcmp
theorem eql44 (x y : Value) (w : World) : (binOp .eql 27 (.iface 44 x) (.iface 24 y)).run Tryd.prog w = .ok (.bool false) w :=
  run_eql_iface_types (P := Tryd.prog) 44 24 x y Tryd.underlying27 (by decide) w

set_option maxHeartbeats 400000 in
/-- errors.is, the error a chain over the number n, the target the number m. -/
theorem is26 (n m : Int) (ps : List ByteArray) (v : Value) (w : World) (hc : Chain w (.iface 24 (.int .i64 n)) ps v) :
    Calls Tryd.prog 26 #[v, .iface 24 (.int .i64 m), .bool true] w fun ev w' => ev = .returned (.bool (n == m)) ∧ w' = w := by
  have mU := Tryd.methodUnwrap
  have q1 := eql24
  have q2 := eql44
  have n1 := Tryd.noIs44
  have n2 := Tryd.has44
  have m1 := Tryd.noIs24
  have m2 := Tryd.no24
  have m3 := Tryd.nos24
  have hC := hide hc
  clear hc
  go_enter Tryd.func26, Tryd.ntmps26
  go_wp2
  go_loopg [0] ps.length (fun k v wr => wr = w ∧ ∃ qs, qs.length = k ∧ Chain wr (.iface 24 (.int .i64 n)) qs v)
  case atStart => exact ⟨rfl, ps, rfl, hC.out⟩
  case round =>
    obtain ⟨rfl, qs, hk, hq⟩ := hrel
    cases qs with
    | nil =>
      obtain rfl := hq
      clear hk
      cases hnm : (n == m) with
      | true =>
        go_wp2
        go_ret
        exact ⟨by rw [hnm]; rfl, rfl⟩
      | false =>
        go_wp2
        go_ret
        exact ⟨by rw [hnm]; rfl, rfl⟩
    | cons q qs =>
      obtain ⟨b, u, rfl, c0, c1, hq⟩ := hq
      obtain ⟨T, y, rfl⟩ := hq.form (Or.inl ⟨n, rfl⟩)
      have HQ := hide hq
      have HK : Hid (qs.length < gk) := by simp at hk; unfold Hid; omega
      clear hq hk
      go_wp2
      go_roundg qs.length
      case measure => exact HK.out
      case rel => exact ⟨rfl, qs, rfl, HQ.out⟩

theorem comparable24 (w : World) : (callFunc 55 #[.agg #[.pointer (some ⟨1, 24, none⟩)]]).run Tryd.prog w = .ok (.value (.bool true)) w := by
  have h55 := @run_callFunc_extern Tryd.prog 55 _ (ReflectliteType.method fun t => do Rtype.noPackHeld "Comparable" t; pure (.bool (← typeInfo t).comparable)) Tryd.func55 (by kernel_rfl) (by kernel_rfl) (by kernel_rfl) (by kernel_rfl)
  rw [h55, show ((ReflectliteType.method fun t => do Rtype.noPackHeld "Comparable" t; pure (.bool (← typeInfo t).comparable)) #[.agg #[.pointer (some ⟨1, 24, none⟩)]]).run Tryd.prog w = .ok (.bool true) w by kernel_rfl]
  rfl

set_option maxHeartbeats 400000 in
/-- errors.Is, the error a chain over the number n, the target the number m. -/
theorem is_num (n m : Int) (ps : List ByteArray) (v : Value) (w : World) (hc : Chain w (.iface 24 (.int .i64 n)) ps v) :
    Calls Tryd.prog 17 #[v, .iface 24 (.int .i64 m)] w fun ev w' => ev = .returned (.bool (n == m)) ∧ w' = w := by
  have h10 := @run_callFunc_extern Tryd.prog 25 _ ReflectliteType.typeOf Tryd.func25 (by kernel_rfl) (by kernel_rfl) (by kernel_rfl) (by kernel_rfl)
  have tO := Tryd.typeOf24
  have mC := Tryd.methodComparable
  have c24 := comparable24
  obtain ⟨T, x, rfl⟩ := hc.form (Or.inl ⟨n, rfl⟩)
  have hC := hide hc
  clear hc
  go_enter Tryd.func17, Tryd.ntmps17
  go_wp2_with (go_at_call 26; refine (is26 n m ps _ _ (unhide hC)).mono ?_; rintro e w' ⟨rfl, rfl⟩)
  go_ret
  exact ⟨rfl, rfl⟩
end Go.Proofs.YteabloaipoehoaaDoor

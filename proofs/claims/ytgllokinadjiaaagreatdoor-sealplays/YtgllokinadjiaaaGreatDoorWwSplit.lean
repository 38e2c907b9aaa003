/- Plain numbers: what Split makes of bytes. wire.Frame: a contract. Closed facts on what errors.As asks of the model, at a flaw around a number and a target for a number. errors.As at a flaw around a number, the target a variable for a number; wire.number: contracts. -/
import Derived.Test.YtgllokinadjiaaaGreatDoorWwNum
namespace Go.Proofs.YtgllokinadjiaaaGreatDoor.Ww
/-- the bytes of a frame. -/
def frame (bs : List Nat) : List Nat := be4 bs.length ++ be4 (Sum.crc bs) ++ bs
/-- what stands at the beginning of bytes: none (0), a flaw (its number), or a frame that is whole and what it holds. -/
def frameOf (l : List Nat) : Nat × Option (List Nat) :=
  if l.length < 4 then (0, none) else
  let n := joinTo 0 (l.take 4)
  if 65536 < n then (5, none) else
  if l.length < 8 + n then (0, none) else
  if joinTo 0 ((l.drop 4).take 4) ≠ Sum.crc ((l.drop 8).take n) then (11, none) else (0, some ((l.drop 8).take n))
/-- the frames of bytes, how many bytes they take, and what stands behind them. -/
def splitOf : Nat → List Nat → List (List Nat) × Nat × Nat
  | 0, _ => ([], 0, 0)
  | f + 1, l => match frameOf l with
    | (e, none) => ([], 0, e)
    | (_, some x) => let (xs, n, e) := splitOf f (l.drop (8 + x.length)); (x :: xs, 8 + x.length + n, e)
end Go.Proofs.YtgllokinadjiaaaGreatDoor.Ww
namespace Go.Proofs.YtgllokinadjiaaaGreatDoor.Ww
open Go.RowKit

theorem Bytes.news {w : World} {a : Addr} {bs : List Nat} (h : Bytes w (some a) bs) : ∀ j u, (u8s bs)[j]? = some u → w.cell? (a.add j) = some u := by
  intro j u hj
  have hj' : j < bs.length := by
    have := (List.getElem?_eq_some_iff.1 hj).1
    simpa [u8s] using this
  obtain ⟨a', ea, hc⟩ := h.2 j hj'
  obtain rfl := Option.some.inj ea
  rw [hc, ← hj, u8s, List.getElem?_map, List.getD_eq_getElem?_getD, List.getElem?_eq_getElem hj']; rfl
theorem Bytes.none_nil {w : World} {bs : List Nat} (hb : Bytes w none bs) : bs = [] := by
  cases bs with
  | nil => rfl
  | cons x l => obtain ⟨a, ea, _⟩ := hb.2 0 (by simp); cases ea

theorem joined_any (ao : Option Addr) (cap : Nat) (bs : List Nat) (w : World) (hb : Bytes w ao bs) (hl : bs.length ≤ 140737488355328) :
    Calls Tryz.prog 91 #[.slice ao bs.length cap] w fun e w' => e = .returned (.int .u64 ((joinTo 0 bs : Nat) : Int)) ∧ w' = w := by
  cases ao with
  | none => exact joined_none cap bs w hb
  | some a => exact joined_some a cap bs w hb hl
theorem joined_len (ao : Option Addr) (n cap : Nat) (bs : List Nat) (hn : bs.length = n) (w : World) (hb : Bytes w ao bs) (hl : n ≤ 140737488355328) :
    Calls Tryz.prog 91 #[.slice ao n cap] w fun e w' => e = .returned (.int .u64 ((joinTo 0 bs : Nat) : Int)) ∧ w' = w := by
  subst hn; exact joined_any ao cap bs w hb hl
theorem Bytes.drop {w : World} {a : Addr} {bs : List Nat} (h : Bytes w (some a) bs) (k : Nat) : Bytes w (some (a.add k)) (bs.drop k) := by
  refine ⟨fun x hx => h.1 x (List.mem_of_mem_drop hx), fun i hi => ⟨_, rfl, ?_⟩⟩
  rw [List.length_drop] at hi
  obtain ⟨a', ea, hc⟩ := h.2 (k + i) (by omega)
  obtain rfl := Option.some.inj ea
  rw [Addr.add_add, hc]
  simp [List.getD_eq_getElem?_getD]
theorem Bytes.take {w : World} {ao : Option Addr} {bs : List Nat} (h : Bytes w ao bs) (k : Nat) : Bytes w ao (bs.take k) := by
  refine ⟨fun x hx => h.1 x (List.mem_of_mem_take hx), fun i hi => ?_⟩
  rw [List.length_take] at hi
  obtain ⟨a', ea, hc⟩ := h.2 i (by omega)
  refine ⟨a', ea, ?_⟩
  rw [hc, List.getD_eq_getElem?_getD, List.getD_eq_getElem?_getD, List.getElem?_take_of_lt (by omega)]
end Go.Proofs.YtgllokinadjiaaaGreatDoor.Ww
namespace Go.Proofs.YtgllokinadjiaaaGreatDoor.Ww
open Go.RowKit Go.Extern.Stop Go.Stop Go.Extern

theorem as_nil (t : Value) (w : World) :
    Calls Tryz.prog 69 #[.nilIface, t] w fun e w' => e = .returned (.bool false) ∧ w' = w := by
  go_enter Tryz.func69, Tryz.ntmps69
  go_wp2
  go_ret
  exact ⟨rfl, rfl⟩

theorem Tryz.valueOfP (t : Addr) (w : World) : (ReflectliteValue.unpack (.iface 135 (.pointer (some t)))).run Tryz.prog w
    = .ok (.agg #[.pointer (some ⟨1, 135, none⟩), .pointer (some ⟨w.heap.size, 0, none⟩), .int .u64 150]) (w.alloc (.cells #[.pointer (some t)] 135)) := by kernel_rfl
theorem Tryz.valueOfN (n : Int) (w : World) : (ReflectliteValue.unpack (.iface 31 (.int .i64 n))).run Tryz.prog w
    = .ok (.agg #[.pointer (some ⟨1, 31, none⟩), .pointer (some ⟨w.heap.size, 0, none⟩), .int .u64 130]) (w.alloc (.cells #[.int .i64 n] 31)) := by kernel_rfl
theorem Tryz.typeP (a : Addr) (w : World) : (ReflectliteValue.methodAny (ReflectliteValue.valueError "reflectlite.Value.Type" 0) (fun t _ _ _ => ReflectliteType.toType t) #[.agg #[.pointer (some ⟨1, 135, none⟩), .pointer (some a), .int .u64 150]]).run Tryz.prog w
    = .ok (.iface 123 (.agg #[.pointer (some ⟨1, 135, none⟩)])) w := by kernel_rfl
theorem Tryz.methodKind (h : Value) (w : World) : (Go.method 303 123 (.agg #[h]) "Kind").run Tryz.prog w = .ok (107, h) w := by kernel_rfl
theorem Tryz.methodElem (h : Value) (w : World) : (Go.method 303 123 (.agg #[h]) "Elem").run Tryz.prog w = .ok (120, .agg #[h]) w := by kernel_rfl
theorem Tryz.methodImplements (h : Value) (w : World) : (Go.method 303 123 (.agg #[h]) "Implements").run Tryz.prog w = .ok (121, .agg #[h]) w := by kernel_rfl
theorem Tryz.methodAssignableTo (h : Value) (w : World) : (Go.method 303 123 (.agg #[h]) "AssignableTo").run Tryz.prog w = .ok (118, .agg #[h]) w := by kernel_rfl
theorem Tryz.methodUnwrap (h : Value) (w : World) : (Go.method 303 153 h "Unwrap").run Tryz.prog w = .ok (132, h) w := by kernel_rfl
theorem Tryz.kindP (w : World) : ((ReflectliteType.abiMethod fun t => (fun a : Nat => Value.int IntKind.u8 (a : Int)) <$> Rtype.kind t) #[.pointer (some ⟨1, 135, none⟩)]).run Tryz.prog w = .ok (.int .u8 22) w := by kernel_rfl
theorem Tryz.kindN (w : World) : ((ReflectliteType.abiMethod fun t => (fun a : Nat => Value.int IntKind.u8 (a : Int)) <$> Rtype.kind t) #[.pointer (some ⟨1, 31, none⟩)]).run Tryz.prog w = .ok (.int .u8 2) w := by kernel_rfl
theorem Tryz.elemP (w : World) : (ReflectliteType.method ReflectliteType.elem #[.agg #[.pointer (some ⟨1, 135, none⟩)]]).run Tryz.prog w = .ok (.iface 123 (.agg #[.pointer (some ⟨1, 31, none⟩)])) w := by kernel_rfl
theorem Tryz.implementsN (w : World) : (ReflectliteType.relation "Implements" ReflectliteType.implements_ #[.agg #[.pointer (some ⟨1, 31, none⟩)], .iface 123 (.agg #[.pointer (some ⟨1, 62, none⟩)])]).run Tryz.prog w = .ok (.bool true) w := by kernel_rfl
theorem Tryz.typeOfF (v : Value) (w : World) : (ReflectliteType.typeOf #[.iface 153 v]).run Tryz.prog w = .ok (.iface 123 (.agg #[.pointer (some ⟨1, 153, none⟩)])) w := by kernel_rfl
theorem Tryz.typeOfN (v : Value) (w : World) : (ReflectliteType.typeOf #[.iface 31 v]).run Tryz.prog w = .ok (.iface 123 (.agg #[.pointer (some ⟨1, 31, none⟩)])) w := by kernel_rfl
theorem Tryz.asgFtoN (w : World) : (ReflectliteType.relation "AssignableTo" ReflectliteType.assignableTo #[.agg #[.pointer (some ⟨1, 153, none⟩)], .iface 123 (.agg #[.pointer (some ⟨1, 31, none⟩)])]).run Tryz.prog w = .ok (.bool false) w := by kernel_rfl
theorem Tryz.asgNtoN (w : World) : (ReflectliteType.relation "AssignableTo" ReflectliteType.assignableTo #[.agg #[.pointer (some ⟨1, 31, none⟩)], .iface 123 (.agg #[.pointer (some ⟨1, 31, none⟩)])]).run Tryz.prog w = .ok (.bool true) w := by kernel_rfl
theorem Tryz.noAsF (v : Value) (xT : TypeId) (w : World) : (Instr.typeAssert (.iface 153 v) xT 163 true).run Tryz.prog w = .ok (.tuple #[.nilIface, .bool false]) w := run_typeAssert_lacksB Tryz.underlying163 (by kernel_rfl) (by kernel_rfl) v xT w
theorem Tryz.hasF (v : Value) (xT : TypeId) (w : World) : (Instr.typeAssert (.iface 153 v) xT 128 true).run Tryz.prog w = .ok (.tuple #[.iface 153 v, .bool true]) w := run_typeAssert_hasB Tryz.underlying128 (by kernel_rfl) v xT w
theorem Tryz.partsP (a : Addr) (w : World) : (ReflectliteValue.parts (.agg #[.pointer (some ⟨1, 135, none⟩), .pointer (some a), .int .u64 150])).run Tryz.prog w = .ok (some (135, a, 150)) w := by kernel_rfl
theorem Tryz.isNilP (a p : Addr) (W : World) (ha : W.cell? a = some (.pointer (some p))) :
    (ReflectliteValue.method (ReflectliteValue.valueError "reflectlite.Value.IsNil" 0) ReflectliteValue.isNil #[.agg #[.pointer (some ⟨1, 135, none⟩), .pointer (some a), .int .u64 150]]).run Tryz.prog W = .ok (.bool false) W := by
  have e0 : ReflectliteValue.method (ReflectliteValue.valueError "reflectlite.Value.IsNil" 0) ReflectliteValue.isNil #[.agg #[.pointer (some ⟨1, 135, none⟩), .pointer (some a), .int .u64 150]] = (ReflectliteValue.parts (.agg #[.pointer (some ⟨1, 135, none⟩), .pointer (some a), .int .u64 150]) >>= _) := rfl
  rw [e0]
  simp only [Sem.run_bind, Tryz.partsP, Result.andThen]
  simp [ReflectliteValue.isNil, loadVar, isAgg, underlying, Tryz.underlying135, ha, Result.andThen]
theorem Tryz.elemOfP (w : World) : (Rtype.elem? 135).run Tryz.prog w = .ok (some 31) w := by kernel_rfl
theorem Tryz.mkN (p : Addr) (w : World) : (ReflectliteValue.mk 31 p ReflectliteValue.flagAddr).run Tryz.prog w = .ok (.agg #[.pointer (some ⟨1, 31, none⟩), .pointer (some p), .int .u64 386]) w := by kernel_rfl
theorem Tryz.elemVP (a p : Addr) (W : World) (ha : W.cell? a = some (.pointer (some p))) :
    (ReflectliteValue.method (ReflectliteValue.valueError "reflectlite.Value.Elem" 0) ReflectliteValue.elem #[.agg #[.pointer (some ⟨1, 135, none⟩), .pointer (some a), .int .u64 150]]).run Tryz.prog W
      = .ok (.agg #[.pointer (some ⟨1, 31, none⟩), .pointer (some p), .int .u64 386]) W := by
  have e0 : ReflectliteValue.method (ReflectliteValue.valueError "reflectlite.Value.Elem" 0) ReflectliteValue.elem #[.agg #[.pointer (some ⟨1, 135, none⟩), .pointer (some a), .int .u64 150]] = (ReflectliteValue.parts (.agg #[.pointer (some ⟨1, 135, none⟩), .pointer (some a), .int .u64 150]) >>= _) := rfl
  rw [e0]
  simp only [Sem.run_bind, Tryz.partsP, Result.andThen]
  simp [ReflectliteValue.elem, loadVar, isAgg, underlying, Tryz.underlying135, ha, Result.andThen, Tryz.elemOfP, Tryz.mkN]
theorem Tryz.partsNa (a : Addr) (w : World) : (ReflectliteValue.parts (.agg #[.pointer (some ⟨1, 31, none⟩), .pointer (some a), .int .u64 386])).run Tryz.prog w = .ok (some (31, a, 386)) w := by kernel_rfl
theorem Tryz.partsN (a : Addr) (w : World) : (ReflectliteValue.parts (.agg #[.pointer (some ⟨1, 31, none⟩), .pointer (some a), .int .u64 130])).run Tryz.prog w = .ok (some (31, a, 130)) w := by kernel_rfl
theorem Tryz.directN (w : World) : (Rtype.directlyAssignable 31 31).run Tryz.prog w = .ok true w := by kernel_rfl
theorem Tryz.setN (ta b : Addr) (n : Int) (old : Value) (W : World) (hb : W.cell? b = some (.int .i64 n)) (ht : W.cell? ta = some old) (hf : W.frozen? ta = false) :
    (ReflectliteValue.set #[.agg #[.pointer (some ⟨1, 31, none⟩), .pointer (some ta), .int .u64 386], .agg #[.pointer (some ⟨1, 31, none⟩), .pointer (some b), .int .u64 130]]).run Tryz.prog W
      = .ok (.tuple #[]) (W.setCell ta (.int .i64 n)) := by
  have e0 : ReflectliteValue.set #[.agg #[.pointer (some ⟨1, 31, none⟩), .pointer (some ta), .int .u64 386], .agg #[.pointer (some ⟨1, 31, none⟩), .pointer (some b), .int .u64 130]] = (ReflectliteValue.parts (.agg #[.pointer (some ⟨1, 31, none⟩), .pointer (some ta), .int .u64 386]) >>= fun _ => ReflectliteValue.parts (.agg #[.pointer (some ⟨1, 31, none⟩), .pointer (some b), .int .u64 130]) >>= _) := rfl
  rw [e0]
  simp only [Sem.run_bind, Tryz.partsNa, Tryz.partsN, Result.andThen]
  simp [ReflectliteValue.flagAddr, loadVar, isAgg, underlying, Tryz.underlying31, hb, Result.andThen, Tryz.directN, storeVar, Value.cells, storeCells, Addr.add]
  rw [run_store Tryz.prog W ta _ _ (by rfl)]
  simp [ht, hf]

end Go.Proofs.YtgllokinadjiaaaGreatDoor.Ww
namespace Go.Proofs.YtgllokinadjiaaaGreatDoor.Ww
open Go.RowKit Go.Extern.Stop Go.Stop Go.Extern

/-- errors.errorType holds what package errors lays there. -/
def Glob (w : World) : Prop := w.cell? ⟨0, 0, none⟩ = some (.iface 123 (.agg #[.pointer (some ⟨1, 62, none⟩)]))
theorem keep_alloc {w : World} {o : Obj} {a : Addr} {u : Value} (h : w.cell? a = some u) : (w.alloc o).cell? a = some u := by
  rw [World.cell?_alloc_lt _ _ _ (blk_lt h)]; exact h
theorem Glob.alloc {w : World} (h : Glob w) (o : Obj) : Glob (w.alloc o) := keep_alloc h
theorem Glob.below {base : Nat} {w w' : World} (h : Glob w) (hb : Below base w w') (hz : 0 < base) : Glob w' := by
  unfold Glob; rw [hb.cell (p := ⟨0, 0, none⟩) hz]; exact h

set_option maxHeartbeats 400000 in
/-- errors.as, the error a flaw around a number, the target a variable for a number: it is set. -/
theorem as_flaw (n : Int) (b : Nat) (t a : Addr) (old : Value) (w : World) (hc : w.cell? ⟨b, 1, none⟩ = some (.iface 31 (.int .i64 n))) (ha : w.cell? a = some (.pointer (some t))) (ht0 : w.cell? t = some old) (hf0 : w.frozen? t = false) :
    Calls Tryz.prog 79 #[.iface 153 (.pointer (some ⟨b, 0, none⟩)), .iface 135 (.pointer (some t)), .agg #[.pointer (some ⟨1, 135, none⟩), .pointer (some a), .int .u64 150], .iface 123 (.agg #[.pointer (some ⟨1, 31, none⟩)])] w
      fun ev w' => ev = .returned (.bool true) ∧ w' = ((w.alloc (.cells #[.pointer (some ⟨1, 135, none⟩), .pointer (some a), .int .u64 150] 146)).alloc (.cells #[.int .i64 n] 31)).setCell t (.int .i64 n) := by
  have h10 := @run_callFunc_extern Tryz.prog 57 _ ReflectliteType.typeOf Tryz.func57 (by kernel_rfl) (by kernel_rfl) (by kernel_rfl) (by kernel_rfl)
  have h35 := @run_callFunc_extern Tryz.prog 118 _ (ReflectliteType.relation "AssignableTo" ReflectliteType.assignableTo) Tryz.func118 (by kernel_rfl) (by kernel_rfl) (by kernel_rfl) (by kernel_rfl)
  have h11 := @run_callFunc_extern Tryz.prog 84 _ (ReflectliteValue.method (ReflectliteValue.valueError "reflectlite.Value.Elem" 0) ReflectliteValue.elem) Tryz.func84 (by kernel_rfl) (by kernel_rfl) (by kernel_rfl) (by kernel_rfl)
  have h6 := @run_callFunc_extern Tryz.prog 76 _ (fun args => ReflectliteValue.unpack (args.getD 0 (.tuple #[]))) Tryz.func76 (by kernel_rfl) (by kernel_rfl) (by kernel_rfl) (by kernel_rfl)
  have h12 := @run_callFunc_extern Tryz.prog 85 _ ReflectliteValue.set Tryz.func85 (by kernel_rfl) (by kernel_rfl) (by kernel_rfl) (by kernel_rfl)
  have tO := Tryz.typeOfF
  have tO2 := Tryz.typeOfN
  have mA := Tryz.methodAssignableTo
  have mU := Tryz.methodUnwrap
  have aa := Tryz.asgFtoN
  have ab := Tryz.asgNtoN
  have v24 := Tryz.valueOfN
  have n1 := Tryz.noAsF
  have n2 := Tryz.hasF
  have hal := blk_lt ha
  have htl := blk_lt ht0
  have el := Tryz.elemVP a t (w.alloc (.cells #[.pointer (some ⟨1, 135, none⟩), .pointer (some a), .int .u64 150] 146)) (by rw [World.cell?_alloc_lt _ _ a hal]; exact ha)
  have st := Tryz.setN t ⟨w.heap.size + 1, 0, none⟩ n old ((w.alloc (.cells #[.pointer (some ⟨1, 135, none⟩), .pointer (some a), .int .u64 150] 146)).alloc (.cells #[.int .i64 n] 31))
    (by rw [World.cell?_alloc_at _ _ _ _ (by simp)]; rfl)
    (by rw [World.cell?_alloc_lt _ _ t (by simp; omega), World.cell?_alloc_lt _ _ t htl]; exact ht0)
    (by rw [World.frozen?_alloc_old _ _ t (by simp; omega), World.frozen?_alloc_old _ _ t (Nat.ne_of_lt htl)]; exact hf0)
  have hC : (w.alloc (.cells #[.pointer (some ⟨1, 135, none⟩), .pointer (some a), .int .u64 150] 146)).cell? ⟨b, 1, none⟩ = some (.iface 31 (.int .i64 n)) := keep_alloc hc
  clear hc
  go_enter Tryz.func79, Tryz.ntmps79
  go_wp2
  go_loopg [0] 1 (fun k v wr => wr = w.alloc (.cells #[.pointer (some ⟨1, 135, none⟩), .pointer (some a), .int .u64 150] 146) ∧ ((k = 1 ∧ v = .iface 153 (.pointer (some ⟨b, 0, none⟩))) ∨ (k = 0 ∧ v = .iface 31 (.int .i64 n))))
  case atStart => exact ⟨rfl, Or.inl ⟨rfl, rfl⟩⟩
  case round =>
    obtain ⟨rfl, ⟨hk, rfl⟩ | ⟨hk, rfl⟩⟩ := hrel
    · have HK := hide hk
      clear hk
      go_wp2
      go_roundg 0
      case measure => have := unhide HK; omega
      case rel => exact ⟨rfl, Or.inr ⟨rfl, rfl⟩⟩
    · clear hk
      go_wp2
      go_ret
      exact ⟨rfl, rfl⟩

set_option maxHeartbeats 1000000 in
/-- errors.As likewise. -/
theorem as_num (n : Int) (b : Nat) (t : Addr) (old : Value) (w : World) (hg : Glob w) (hc : w.cell? ⟨b, 1, none⟩ = some (.iface 31 (.int .i64 n))) (ht0 : w.cell? t = some old) (hf0 : w.frozen? t = false) :
    Calls Tryz.prog 69 #[.iface 153 (.pointer (some ⟨b, 0, none⟩)), .iface 135 (.pointer (some t))] w
      fun ev w' => ev = .returned (.bool true) ∧ w'.cell? t = some (.int .i64 n) ∧ Below t.block w w' := by
  have htl := blk_lt ht0
  have HC := hide (keep_alloc (o := .cells #[.pointer (some ⟨1, 135, none⟩), .pointer (some ⟨w.heap.size, 0, none⟩), .int .u64 150] 146) (keep_alloc (o := .cells #[.pointer (some t)] 135) hc))
  clear hc
  have h6 := @run_callFunc_extern Tryz.prog 76 _ (fun args => ReflectliteValue.unpack (args.getD 0 (.tuple #[]))) Tryz.func76 (by kernel_rfl) (by kernel_rfl) (by kernel_rfl) (by kernel_rfl)
  have h7 := @run_callFunc_extern Tryz.prog 77 _ (ReflectliteValue.methodAny (ReflectliteValue.valueError "reflectlite.Value.Type" 0) (fun t _ _ _ => ReflectliteType.toType t)) Tryz.func77 (by kernel_rfl) (by kernel_rfl) (by kernel_rfl) (by kernel_rfl)
  have h8 := @run_callFunc_extern Tryz.prog 78 _ (ReflectliteValue.method (ReflectliteValue.valueError "reflectlite.Value.IsNil" 0) ReflectliteValue.isNil) Tryz.func78 (by kernel_rfl) (by kernel_rfl) (by kernel_rfl) (by kernel_rfl)
  have h43 := @run_callFunc_extern Tryz.prog 107 _ (ReflectliteType.abiMethod fun t => do pure (.int .u8 (← Rtype.kind t))) Tryz.func107 (by kernel_rfl) (by kernel_rfl) (by kernel_rfl) (by kernel_rfl)
  have h56 := @run_callFunc_extern Tryz.prog 120 _ (ReflectliteType.method ReflectliteType.elem) Tryz.func120 (by kernel_rfl) (by kernel_rfl) (by kernel_rfl) (by kernel_rfl)
  have h57 := @run_callFunc_extern Tryz.prog 121 _ (ReflectliteType.relation "Implements" ReflectliteType.implements_) Tryz.func121 (by kernel_rfl) (by kernel_rfl) (by kernel_rfl) (by kernel_rfl)
  have f6 := Tryz.valueOfP
  have f7 := Tryz.typeP
  have mK := Tryz.methodKind
  have mE := Tryz.methodElem
  have mI := Tryz.methodImplements
  have k1 := Tryz.kindP
  have k2 := Tryz.kindN
  have e1 := Tryz.elemP
  have i1 := Tryz.implementsN
  have n8 := Tryz.isNilP ⟨w.heap.size, 0, none⟩ t ((w.alloc (.cells #[.pointer (some t)] 135)).alloc (.cells #[.pointer (some ⟨1, 135, none⟩), .pointer (some ⟨w.heap.size, 0, none⟩), .int .u64 150] 146)) (by simp)
  have hg2 : ((w.alloc (.cells #[.pointer (some t)] 135)).alloc (.cells #[.pointer (some ⟨1, 135, none⟩), .pointer (some ⟨w.heap.size, 0, none⟩), .int .u64 150] 146)).cell? ⟨0, 0, none⟩ = some (.iface 123 (.agg #[.pointer (some ⟨1, 62, none⟩)])) := (hg.alloc _).alloc _
  have hA : ((w.alloc (.cells #[.pointer (some t)] 135)).alloc (.cells #[.pointer (some ⟨1, 135, none⟩), .pointer (some ⟨w.heap.size, 0, none⟩), .int .u64 150] 146)).cell? ⟨w.heap.size, 0, none⟩ = some (.pointer (some t)) := by simp
  have hT : ((w.alloc (.cells #[.pointer (some t)] 135)).alloc (.cells #[.pointer (some ⟨1, 135, none⟩), .pointer (some ⟨w.heap.size, 0, none⟩), .int .u64 150] 146)).cell? t = some old := by
    rw [World.cell?_alloc_lt _ _ t (by simp; omega), World.cell?_alloc_lt _ _ t htl]; exact ht0
  have hF : ((w.alloc (.cells #[.pointer (some t)] 135)).alloc (.cells #[.pointer (some ⟨1, 135, none⟩), .pointer (some ⟨w.heap.size, 0, none⟩), .int .u64 150] 146)).frozen? t = false := by
    rw [World.frozen?_alloc_old _ _ t (by simp; omega), World.frozen?_alloc_old _ _ t (Nat.ne_of_lt htl)]; exact hf0
  have HT := hide hT
  have HF := hide hF
  have HA := hide hA
  clear hT hF hA ht0 hf0
  go_enter Tryz.func69, Tryz.ntmps69
  go_wp2_with (go_at_call 79; refine (as_flaw n b t _ old _ (unhide HC) (unhide HA) (unhide HT) (unhide HF)).mono ?_; rintro e w' ⟨rfl, rfl⟩)
  go_ret
  refine ⟨rfl, World.cell?_setCell_same _ t _ (u := old) ?_, ?_⟩
  · rw [World.cell?_alloc_lt _ _ t (by simp; omega), World.cell?_alloc_lt _ _ t (by simp; omega)]; exact unhide HT
  · exact (((((Below.refl _ w).alloc (by omega) _).alloc (by simp; omega) _).alloc (by simp; omega) _).alloc (by simp; omega) _).setCell (Nat.le_refl _) _

/-- the value ev is the error that is told by the number n; 0: none. -/
def Err (w : World) (ev : Value) (n : Nat) : Prop :=
  (n = 0 ∧ ev = .nilIface) ∨ ∃ b : Nat, n ≠ 0 ∧ ev = .iface 153 (.pointer (some ⟨b, 0, none⟩)) ∧ w.cell? ⟨b, 1, none⟩ = some (.iface 31 (.int .i64 (n : Int)))

theorem number_nil (w : World) : Calls Tryz.prog 63 #[.nilIface] w fun e w' => e = .returned (.int .i64 0) ∧ Below w.heap.size w w' := by
  go_enter Tryz.func63, Tryz.ntmps63
  go_wp2_with fail
  refine (as_nil _ _).mono ?_
  rintro e w1 ⟨rfl, rfl⟩
  go_wp2
  go_ret
  exact ⟨rfl, (Below.refl _ _).alloc (Nat.le_refl _) _⟩
theorem number_flaw (n : Int) (b : Nat) (w : World) (hg : Glob w) (hc : w.cell? ⟨b, 1, none⟩ = some (.iface 31 (.int .i64 n))) :
    Calls Tryz.prog 63 #[.iface 153 (.pointer (some ⟨b, 0, none⟩))] w fun e w' => e = .returned (.int .i64 n) ∧ Below w.heap.size w w' := by
  have HG := hide hg
  have HC := hide hc
  clear hg hc
  go_enter Tryz.func63, Tryz.ntmps63
  go_wp2_with fail
  refine (as_num n b ⟨w.heap.size, 0, none⟩ (.int .i64 0) _ ((unhide HG).alloc _) (keep_alloc (unhide HC)) (by simp) (by simp)).mono ?_
  rintro e w1 ⟨rfl, hc1, hb1⟩
  have HB := hide hb1
  clear hb1
  go_wp2
  go_ret
  exact ⟨rfl, ((Below.refl _ _).alloc (Nat.le_refl _) _).trans (unhide HB)⟩
theorem number_any (ev : Value) (n : Nat) (w : World) (hg : Glob w) (he : Err w ev n) :
    Calls Tryz.prog 63 #[ev] w fun e w' => e = .returned (.int .i64 n) ∧ Below w.heap.size w w' := by
  rcases he with ⟨rfl, rfl⟩ | ⟨b, _, rfl, hc⟩
  · exact number_nil w
  · exact number_flaw n b w hg hc
end Go.Proofs.YtgllokinadjiaaaGreatDoor.Ww

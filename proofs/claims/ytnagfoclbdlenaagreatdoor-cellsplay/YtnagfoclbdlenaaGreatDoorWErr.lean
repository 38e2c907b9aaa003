/- errors.Is at a part of a record, and at none: contracts. -/
import Derived.Test.YtnagfoclbdlenaaGreatDoorWStr
namespace Go.Proofs.YtnagfoclbdlenaaGreatDoor
open Go.RowKit Go.Extern.Stop Go.Stop Go.Extern

theorem Tryz.methodUnwrapT (h : Value) (w : World) : (Go.method 307 92 h "Unwrap").run Tryz.prog w = .ok (110, h) w := by kernel_rfl
theorem Tryz.noIsTail (v : Value) (xT : TypeId) (w : World) : (Instr.typeAssert (.iface 92 v) xT 123 true).run Tryz.prog w = .ok (.tuple #[.nilIface, .bool false]) w := run_typeAssert_lacksB Tryz.underlying123 (by kernel_rfl) (by kernel_rfl) v xT w
theorem Tryz.hasUnTail (v : Value) (xT : TypeId) (w : World) : (Instr.typeAssert (.iface 92 v) xT 126 true).run Tryz.prog w = .ok (.tuple #[.iface 92 v, .bool true]) w := run_typeAssert_hasB Tryz.underlying126 (by kernel_rfl) v xT w
theorem eqlTS (x y : Value) (w : World) : (binOp .eql 72 (.iface 92 x) (.iface 175 y)).run Tryz.prog w = .ok (.bool false) w :=
  run_eql_iface_types (P := Tryz.prog) 92 175 x y Tryz.underlying72 (by decide) w

/-- what stands behind whole records: a part of one. -/
def Part (w : World) (a : Addr) (b : Nat) : Prop := w.cell? ⟨b, 1, none⟩ = some (.iface 175 (.pointer (some a)))

set_option maxHeartbeats 400000 in
theorem is_part (a : Addr) (b : Nat) (w : World) (h : Part w a b) : Calls Tryz.prog 50 #[.iface 92 (.pointer (some ⟨b, 0, none⟩)), .iface 175 (.pointer (some a)), .bool true] w fun ev w' => ev = .returned (.bool true) ∧ w' = w := by
  have q1 := eqlTS
  have q2 := eqlStr a
  have m1 := Tryz.noIsTail
  have m2 := Tryz.hasUnTail
  have m5 := Tryz.methodUnwrapT
  have c1 : w.cell? ⟨b, 1, none⟩ = some (.iface 175 (.pointer (some a))) := h
  clear h
  go_enter Tryz.func50, Tryz.ntmps50
  go_wp2
  go_loopg [0] 1 (fun k v wr => wr = w ∧ ((k = 1 ∧ v = .iface 92 (.pointer (some ⟨b, 0, none⟩))) ∨ v = .iface 175 (.pointer (some a))))
  case atStart => exact ⟨rfl, Or.inl ⟨rfl, rfl⟩⟩
  case round =>
    obtain ⟨rfl, ⟨rfl, rfl⟩ | rfl⟩ := hrel
    · go_wp2
      go_roundg 0
      case measure => decide
      case rel => exact ⟨rfl, Or.inr rfl⟩
    · go_wp2
      go_ret
      exact ⟨rfl, rfl⟩

set_option maxRecDepth 20000 in
theorem Is_part (a : Addr) (b : Nat) (w : World) (h : Part w a b) : Calls Tryz.prog 39 #[.iface 92 (.pointer (some ⟨b, 0, none⟩)), .iface 175 (.pointer (some a))] w fun e w' => e = .returned (.bool true) ∧ w' = w := by
  have h10 := @run_callFunc_extern Tryz.prog 49 _ ReflectliteType.typeOf Tryz.func49 (by kernel_rfl) (by kernel_rfl) (by kernel_rfl) (by kernel_rfl)
  have tO := Tryz.typeOfStr
  have mC := Tryz.methodComparable
  have c24 := comparableStr
  have H := hide h
  clear h
  go_enter Tryz.func39, Tryz.ntmps39
  go_wp2_with (go_at_call 50; refine (is_part a b _ (unhide H)).mono ?_; rintro e w' ⟨rfl, rfl⟩)
  go_ret
  exact ⟨rfl, rfl⟩
set_option maxRecDepth 20000 in
theorem Is_nils (a : Addr) (w : World) : Calls Tryz.prog 39 #[.nilIface, .iface 175 (.pointer (some a))] w fun e w' => e = .returned (.bool false) ∧ w' = w := by
  have q1 := run_eql_iface_nil_left (P := Tryz.prog) w 175 (.pointer (some a)) Tryz.underlying72
  go_enter Tryz.func39, Tryz.ntmps39
  go_wp2
  go_ret
  exact ⟨rfl, rfl⟩

/-- the variable that is listed. -/
def GlobP (w : World) (a : Addr) : Prop := w.cell? ⟨0, 0, none⟩ = some (.iface 175 (.pointer (some a)))

/-- what the listed variables hold, and that they lie ahead of all else. -/
structure Start (w : World) (g a : Addr) : Prop where
  tab : Table w
  glob : Glob w
  goes : GlobT w g
  part : GlobP w a
  low : 4 ≤ w.heap.size
theorem Start.upto {base : Nat} {w w' : World} {g a : Addr} (h : Start w g a) (hb : Below base w w') (hz : 4 ≤ base) : Start w' g a :=
  ⟨h.tab.below hb (by omega), h.glob.below hb (by omega), h.goes.kept hb hz, by unfold GlobP; rw [hb.cell (p := ⟨0, 0, none⟩) (by simp only; omega)]; exact h.part, Nat.le_trans h.low hb.size⟩
theorem Start.below {w w' : World} {g a : Addr} (h : Start w g a) (hb : Below w.heap.size w w') : Start w' g a := h.upto hb h.low

/-- an error of wholeSize's: none, or a part of a record. -/
def ErrP (w : World) (a : Addr) (ev : Value) (c : Bool) : Prop := (c = false ∧ ev = .nilIface) ∨ (c = true ∧ ∃ b, ev = .iface 92 (.pointer (some ⟨b, 0, none⟩)) ∧ Part w a b)

set_option maxHeartbeats 1000000 in
theorem wholeSize_any (ao : Option Addr) (n cap : Nat) (bs : List Nat) (hn : bs.length = n) (xs : List (List Nat)) (sz : Nat) (hs : splitOf (bs.length + 1) bs = (xs, sz, 0)) (hsz : sz ≤ n) (g a : Addr) (w : World) (hb : Bytes w ao bs) (h1 : n ≤ cap) (h3 : n ≤ 1000000000) (hS : Start w g a) :
    Calls Tryz.prog 35 #[.slice ao n cap] w fun e w' => ∃ ev, e = .returned (.tuple #[.int .i64 (sz : Int), ev]) ∧ ErrP w' a ev (decide (sz < n)) ∧ Below w.heap.size w w' := by
  have HB := hide hb
  have HN := hide hn
  have HS := hide hS
  have HSP := hide hs
  clear hb hn hS hs
  go_enter Tryz.func35, Tryz.ntmps35
  go_wp2_with fail
  obtain rfl := unhide HN
  refine (split_any ao cap bs w (unhide HB) h1 h3 (unhide HS).tab (unhide HS).glob (unhide HS).low).mono ?_
  rw [unhide HSP]
  rintro e w1 ⟨fv, vs, rfl, _, _, b1⟩
  have hp : w1.cell? ⟨0, 0, none⟩ = some (.iface 175 (.pointer (some a))) := ((unhide HS).below b1).part
  have B1 := hide b1
  clear b1
  by_cases hlt : sz < bs.length
  · go_wp2
    go_region
    go_wp2
    go_ret2
    refine ⟨_, rfl, Or.inr ⟨by simpa using hlt, _, rfl, ?_⟩, (unhide B1).trans (((Below.refl _ w1).alloc (Nat.le_refl _) _).drew.mono (unhide B1).size)⟩
    exact (cell_of_block (w := w1.alloc _) (heap_alloc_new w1 _)).trans rfl
  · go_wp2
    go_ret2
    exact ⟨_, rfl, Or.inl ⟨by simpa using hlt, rfl⟩, unhide B1⟩

set_option maxRecDepth 20000 in
set_option maxHeartbeats 1000000 in
theorem mend_none (t ws : Value) (g a : Addr) (w : World) (hS : Start w g a) :
    Calls Tryz.prog 36 #[t, ws, .nilIface] w fun e w' => e = .returned (.int .i64 0) ∧ w' = w := by
  have hp : w.cell? ⟨0, 0, none⟩ = some (.iface 175 (.pointer (some a))) := hS.part
  clear hS
  go_enter Tryz.func36, Tryz.ntmps36
  go_wp2_with fail
  refine (Is_nils a _).mono ?_
  rintro e w1 ⟨rfl, rfl⟩
  go_wp2_with fail
  refine (Is_nil 11 _).mono ?_
  rintro e w1 ⟨rfl, rfl⟩
  go_wp2_with fail
  refine (Is_nil 5 _).mono ?_
  rintro e w1 ⟨rfl, rfl⟩
  go_wp2
  go_ret
  exact ⟨rfl, rfl⟩

set_option maxRecDepth 20000 in
set_option maxHeartbeats 1000000 in
theorem mend_part (base p : Nat) (q : Option Nat) (s : St) (b : Nat) (ao : Option Addr) (n cap : Nat) (bs : List Nat) (hn : bs.length = n) (g a : Addr) (w : World) (hS : Start w g a) (hP : Part w a b) (h : Tp base w p q s) (hb : base ≤ w.heap.size) (ho : s.ops ≤ 4611686018427387904) (hl : s.left ≤ 9223372036854775807)
    (hby : ∀ w', Kept base (fun k => k = p) w w' → Bytes w' ao bs) (hbl : n ≤ 100000000000) :
    Calls Tryz.prog 36 #[.pointer (some ⟨p, 0, none⟩), .slice ao n cap, .iface 92 (.pointer (some ⟨b, 0, none⟩))] w fun e w' => ∃ q', e = .returned (.int .i64 (((s.replace bs).1 : Nat) : Int)) ∧ Tp base w' p q' (s.replace bs).2 ∧ Kept base (fun k => k = p) w w' ∧ Fresh w q q' := by
  have hp : w.cell? ⟨0, 0, none⟩ = some (.iface 175 (.pointer (some a))) := hS.part
  have HC := hide (replace_any base p q s g ao n cap bs hn w h hS.goes hb ho hl hby hbl)
  have HP := hide hP
  clear hS hP h hby
  go_enter Tryz.func36, Tryz.ntmps36
  go_wp2_with fail
  refine (Is_part a b _ (unhide HP)).mono ?_
  rintro e w1 ⟨rfl, rfl⟩
  go_wp2_with fail
  refine (unhide HC).mono ?_
  rintro e w2 ⟨q', rfl, t2, k2, f2⟩
  have T2 := hide t2
  have K2 := hide k2
  have F2 := hide f2
  clear t2 k2 f2
  go_wp2
  go_ret
  exact ⟨q', rfl, unhide T2, unhide K2, unhide F2⟩
end Go.Proofs.YtnagfoclbdlenaaGreatDoor

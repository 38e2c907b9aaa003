/- errors.Is at none, at numbers and at a refusal around one; client.number: contracts. -/
import Derived.Test.YtkalpdfigdaalaaUBase
import Derived.LaidEql
namespace Go.Proofs.Ytkalpdfigdaalaa
open Go.RowKit Go.Extern.Stop Go.Stop Go.Extern

theorem Try.methodComparable (h : Value) (w : World) : (Go.method 218 75 (.agg #[h]) "Comparable").run Try.prog w = .ok (54, .agg #[h]) w := by kernel_rfl
theorem Try.methodUnwrapR (h : Value) (w : World) : (Go.method 218 64 h "Unwrap").run Try.prog w = .ok (50, h) w := by kernel_rfl
theorem Try.typeOfNum (v : Value) (w : World) : (ReflectliteType.typeOf #[.iface 39 v]).run Try.prog w = .ok (.iface 75 (.agg #[.pointer (some ⟨0, 39, none⟩)])) w := by kernel_rfl
theorem Try.noIsNum (v : Value) (xT : TypeId) (w : World) : (Instr.typeAssert (.iface 39 v) xT 77 true).run Try.prog w = .ok (.tuple #[.nilIface, .bool false]) w := run_typeAssert_lacksB Try.underlying77 (by kernel_rfl) (by kernel_rfl) v xT w
theorem Try.noUnNum (v : Value) (xT : TypeId) (w : World) : (Instr.typeAssert (.iface 39 v) xT 80 true).run Try.prog w = .ok (.tuple #[.nilIface, .bool false]) w := run_typeAssert_lacksB Try.underlying80 (by kernel_rfl) (by kernel_rfl) v xT w
theorem Try.noUnsNum (v : Value) (xT : TypeId) (w : World) : (Instr.typeAssert (.iface 39 v) xT 82 true).run Try.prog w = .ok (.tuple #[.nilIface, .bool false]) w := run_typeAssert_lacksB Try.underlying82 (by kernel_rfl) (by kernel_rfl) v xT w
theorem Try.noIsR (v : Value) (xT : TypeId) (w : World) : (Instr.typeAssert (.iface 64 v) xT 77 true).run Try.prog w = .ok (.tuple #[.nilIface, .bool false]) w := run_typeAssert_lacksB Try.underlying77 (by kernel_rfl) (by kernel_rfl) v xT w
theorem Try.hasUnR (v : Value) (xT : TypeId) (w : World) : (Instr.typeAssert (.iface 64 v) xT 80 true).run Try.prog w = .ok (.tuple #[.iface 64 v, .bool true]) w := run_typeAssert_hasB Try.underlying80 (by kernel_rfl) v xT w

section
variable {P : Program} (w : World)
theorem run_equalIn_num (d : Nat) {ti tn : TypeId} {ms : Array (String × TypeId)} {i : TypeInfo} {k : IntKind} (a b : Int)
    (hi : P.underlying ti = some (.interface ms)) (hn : P.underlying tn = some (.int k)) (hinfo : P.info? tn = some i) (hcomp : i.comparable = true) :
    (Op.equalIn (d + 2) ti (.iface tn (.int k a)) (.iface tn (.int k b))).run P w = .ok (a == b) w := by
  simp [Op.equalIn, run_underlying hi, run_underlying hn, typeInfo, hinfo, hcomp]
theorem run_eql_num {ti tn : TypeId} {ms : Array (String × TypeId)} {i : TypeInfo} {k : IntKind} (a b : Int)
    (hi : P.underlying ti = some (.interface ms)) (hn : P.underlying tn = some (.int k)) (hinfo : P.info? tn = some i) (hcomp : i.comparable = true) :
    (binOp .eql ti (.iface tn (.int k a)) (.iface tn (.int k b))).run P w = .ok (.bool (a == b)) w := by
  simp only [binOp]
  simp [Op.equal, Op.maxDepth, run_equalIn_num w 9998 a b hi hn hinfo hcomp]
end
theorem Try.compNum : (Try.prog.info? 39).map (·.comparable) = some true := by kernel_rfl
theorem eqlNum (a b : Int) (w : World) : (binOp .eql 56 (.iface 39 (.int .i64 a)) (.iface 39 (.int .i64 b))).run Try.prog w = .ok (.bool (a == b)) w := by
  obtain ⟨i, hi, hcmp⟩ := Option.map_eq_some_iff.1 Try.compNum
  exact run_eql_num w a b Try.underlying56 Try.underlying39 hi hcmp
theorem eqlRN (x y : Value) (w : World) : (binOp .eql 56 (.iface 64 x) (.iface 39 y)).run Try.prog w = .ok (.bool false) w :=
  run_eql_iface_types (P := Try.prog) 64 39 x y Try.underlying56 (by decide) w

/-- a refusal around a number. -/
def Ref (w : World) (b : Nat) (c : Int) : Prop := ∃ x y, w.heap[b]? = some (.cells #[.int .i64 x, .int .i64 y, .iface 39 (.int .i64 c)] 66 (0, 0))
def refV (b : Nat) : Value := .iface 64 (.pointer (some ⟨b, 0, none⟩))

set_option maxHeartbeats 400000 in
theorem is_ref_num (n m : Int) (b : Nat) (w : World) (h : Ref w b n) : Calls Try.prog 29 #[refV b, .iface 39 (.int .i64 m), .bool true] w fun ev w' => ev = .returned (.bool (n == m)) ∧ w' = w := by
  have q1 := eqlRN
  have q2 := eqlNum
  have m1 := Try.noIsR
  have m2 := Try.hasUnR
  have m3 := Try.noIsNum
  have m4 := Try.noUnNum
  have m5 := Try.noUnsNum
  have m6 := Try.methodUnwrapR
  have c2 : w.cell? ⟨b, 2, none⟩ = some (.iface 39 (.int .i64 n)) := by obtain ⟨x, y, h⟩ := h; simp only [World.cell?]; rw [h]; rfl
  clear h
  unfold refV
  go_enter Try.func29, Try.ntmps29
  go_wp2
  go_loopg [0] 1 (fun k v wr => wr = w ∧ ((k = 1 ∧ v = .iface 64 (.pointer (some ⟨b, 0, none⟩))) ∨ v = .iface 39 (.int .i64 n)))
  case atStart => exact ⟨rfl, Or.inl ⟨rfl, rfl⟩⟩
  case round =>
    obtain ⟨rfl, ⟨rfl, rfl⟩ | rfl⟩ := hrel
    · go_wp2
      go_roundg 0
      case measure => decide
      case rel => exact ⟨rfl, Or.inr rfl⟩
    · cases hnm : (n == m) with
      | true =>
        go_wp2
        go_ret
        exact ⟨by rw [hnm]; rfl, rfl⟩
      | false =>
        go_wp2
        go_ret
        exact ⟨by rw [hnm]; rfl, rfl⟩
theorem comparableNum (w : World) : (callFunc 54 #[.agg #[.pointer (some ⟨0, 39, none⟩)]]).run Try.prog w = .ok (.value (.bool true)) w := by
  have h55 := @run_callFunc_extern Try.prog 54 _ (ReflectliteType.method fun t => do Rtype.noPackHeld "Comparable" t; pure (.bool (← typeInfo t).comparable)) Try.func54 (by kernel_rfl) (by kernel_rfl) (by kernel_rfl) (by kernel_rfl)
  rw [h55, show ((ReflectliteType.method fun t => do Rtype.noPackHeld "Comparable" t; pure (.bool (← typeInfo t).comparable)) #[.agg #[.pointer (some ⟨0, 39, none⟩)]]).run Try.prog w = .ok (.bool true) w by kernel_rfl]
  rfl
set_option maxRecDepth 20000 in
theorem Is_ref (n m : Int) (b : Nat) (w : World) (h : Ref w b n) : Calls Try.prog 21 #[refV b, .iface 39 (.int .i64 m)] w fun e w' => e = .returned (.bool (n == m)) ∧ w' = w := by
  have h10 := @run_callFunc_extern Try.prog 28 _ ReflectliteType.typeOf Try.func28 (by kernel_rfl) (by kernel_rfl) (by kernel_rfl) (by kernel_rfl)
  have tO := Try.typeOfNum
  have mC := Try.methodComparable
  have c24 := comparableNum
  have H := hide h
  clear h
  unfold refV
  go_enter Try.func21, Try.ntmps21
  go_wp2_with (go_at_call 29; refine (is_ref_num n m b _ (unhide H)).mono ?_; rintro e w' ⟨rfl, rfl⟩)
  go_ret
  exact ⟨rfl, rfl⟩
theorem Ref.new (w : World) (x y c : Int) {b : Nat} (hb : b = w.heap.size) : Ref (w.alloc (.cells #[.int .i64 x, .int .i64 y, .iface 39 (.int .i64 c)] 66)) b c := ⟨x, y, by rw [hb]; exact heap_alloc_new _ _⟩
theorem Ref.below {w w' : World} {b : Nat} {c : Int} (h : Ref w b c) (hb : Below w.heap.size w w') : Ref w' b c := by
  obtain ⟨x, y, h⟩ := h
  exact ⟨x, y, Below.stay hb h⟩
theorem eqlNilN (y : Value) (w : World) : (binOp .eql 56 .nilIface (.iface 39 y)).run Try.prog w = .ok (.bool false) w := by kernel_rfl
theorem Is_nil (m : Int) (w : World) : Calls Try.prog 21 #[.nilIface, .iface 39 (.int .i64 m)] w fun e w' => e = .returned (.bool false) ∧ w' = w := by
  have q := eqlNilN
  go_enter Try.func21, Try.ntmps21
  go_wp2
  go_ret
  exact ⟨rfl, rfl⟩
/-- what errors.Is says of an error, in this world and all behind it. -/
def Says (w : World) (v : Value) (f : Int → Bool) : Prop := ∀ (m : Int) (Y : World), Below w.heap.size w Y → Calls Try.prog 21 #[v, .iface 39 (.int .i64 m)] Y fun e w' => e = .returned (.bool (f m)) ∧ Below Y.heap.size Y w'
theorem Says.below {w w' : World} {v : Value} {f : Int → Bool} (h : Says w v f) (hb : Below w.heap.size w w') : Says w' v f := fun m Y hY => h m Y (below_far hb hY)
theorem Says.nil (w : World) : Says w .nilIface (fun _ => false) := fun m Y _ => (Is_nil m Y).mono (by rintro e w' ⟨rfl, rfl⟩; exact ⟨rfl, Below.refl _ _⟩)
theorem Says.ref {w : World} {b : Nat} {c : Int} (h : Ref w b c) : Says w (refV b) (fun m => c == m) := fun m Y hY => (Is_ref c m b Y (h.below hY)).mono (by rintro e w' ⟨rfl, rfl⟩; exact ⟨rfl, Below.refl _ _⟩)
/-- the number that a face tells of an error. -/
def faceOf (f : Int → Bool) : Int := if f 1 = true then 1 else if f 19 = true then 19 else if f 2 = true then 2 else 0
def askAt : Nat → Int
  | 0 => 1 | 1 => 19 | 2 => 2 | _ => 0
theorem faceOf_at (f : Int → Bool) (k : Nat) (hk : k < 3) (hn : ∀ j, j < k → f (askAt j) = false) (hy : f (askAt k) = true) : faceOf f = askAt k := by
  have : k = 0 ∨ k = 1 ∨ k = 2 := by omega
  have h0 := hn 0; have h1 := hn 1
  simp only [askAt] at h0 h1
  rcases this with rfl | rfl | rfl <;> simp only [askAt] at hy ⊢ <;> simp [faceOf, *]
theorem faceOf_none (f : Int → Bool) (hn : ∀ j, j < 3 → f (askAt j) = false) : faceOf f = 0 := by
  have h0 := hn 0 (by omega); have h1 := hn 1 (by omega); have h2 := hn 2 (by omega)
  simp only [askAt] at h0 h1 h2
  simp [faceOf, *]
set_option maxHeartbeats 1000000 in
theorem number_says (v : Value) (f : Int → Bool) (w : World) (h : Says w v f) : Calls Try.prog 25 #[v] w fun e w' => e = .returned (.int .i64 (faceOf f)) ∧ Below w.heap.size w w' := by
  obtain ⟨W, hW⟩ : ∃ W, w.alloc (.cells #[.int .i64 1, .int .i64 19, .int .i64 2] 39) = W := ⟨_, rfl⟩
  have bW : Below w.heap.size w W := by rw [← hW]; exact (Below.refl _ w).alloc (Nat.le_refl _) _
  obtain ⟨g, hg⟩ : ∃ g, w.heap.size = g := ⟨_, rfl⟩
  have xW : W.heap[g]? = some (.cells #[.int .i64 1, .int .i64 19, .int .i64 2] 39 (0, 0)) := by rw [← hg, ← hW]; exact box_at _ _
  have H := hide (h.below bW)
  have XW := hide xW
  have BW := hide bW
  have HW := hide hW
  have HG := hide hg
  clear h bW xW hW hg
  go_enter Try.func25, Try.ntmps25
  go_upto_region 2 with fail
  rw [unhide HW, unhide HG]
  go_loopw [7, 4] (fun i _ wr => ∃ k : Nat, k ≤ 3 ∧ i = .int .i64 k ∧ Below W.heap.size W wr ∧ ∀ j, j < k → f (askAt j) = false) (fun i _ _ => 3 - (intOf i).toNat)
  case atStart => exact ⟨0, by omega, rfl, Below.refl _ _, fun j hj => by omega⟩
  case round =>
    obtain ⟨k, hk, rfl, hb, hn⟩ := hrel
    by_cases h6 : k < 3
    · have ck : wr.cell? ⟨g, k, none⟩ = some (.int .i64 (askAt k)) := by
        refine (cell_of_block (Below.stay hb (unhide XW))).trans ?_
        have : k = 0 ∨ k = 1 ∨ k = 2 := by omega
        rcases this with rfl | rfl | rfl <;> rfl
      have q : (k : Int) < 3 := by omega
      have C := hide (unhide H (askAt k) wr hb)
      obtain ⟨a, ha⟩ : ∃ a, askAt k = a := ⟨_, rfl⟩
      rw [ha] at ck C
      have HA := hide ha
      have HB := hide hb
      have HN := hide hn
      clear hb hn ha
      cases hf : f a with
      | true =>
        rw [hf] at C
        have HR : Hid (a = faceOf f) := hide (by rw [faceOf_at f k h6 (unhide HN) (by rw [unhide HA]; exact hf), unhide HA])
        clear hf
        go_wp2_with (go_at_call 21; refine (unhide C).mono ?_; rintro e w' ⟨rfl, b'⟩)
        go_ret
        exact ⟨by rw [← unhide HR]; rfl, (unhide BW).trans ((below_far (unhide HB) b').mono (unhide BW).size)⟩
      | false =>
        rw [hf] at C
        have HR := hide hf
        clear hf
        go_wp2_with (go_at_call 21; refine (unhide C).mono ?_; rintro e w' ⟨rfl, b'⟩)
        go_roundw
        case rel =>
          refine ⟨k + 1, by omega, by go_num, below_far (unhide HB) b', fun j hj => ?_⟩
          by_cases e : j = k
          · subst e; rw [unhide HA]; exact unhide HR
          · exact unhide HN j (by omega)
        case measure => simp [intOf]; omega
    · obtain rfl : k = 3 := by omega
      have HB := hide hb
      have HR := hide (faceOf_none f hn)
      clear hb hn
      go_wp2
      go_ret
      exact ⟨by rw [unhide HR]; rfl, (unhide BW).trans ((unhide HB).mono (unhide BW).size)⟩
end Go.Proofs.Ytkalpdfigdaalaa

/- Words for all texts of this seat: what a call keeps, rows of the call's own, hidden facts. errors.Is at numbers and at a refusal around one; accept.number: contracts. Slices of numbers: what can be read, rows of the call's own, append. -/
import Derived.Test.YtjplhiflemmkfaaGreatDoorProg
import Derived.WalkKit
import Derived.WalkSpells
import Derived.WalkLawsBesides
import Derived.LaidEql
import Derived.Stop.Asserts
import Derived.RowKitTokens
import Derived.Deep.LoopGhost
import Derived.Laws.BitsAllLaws
import Derived.Laws.AppendOwnNone
import Derived.Maps.AppendAt
import Derived.Deep.AppendSrc
import Derived.Deep.Upon
import Derived.Deep.QuietTactic
import Derived.BigQuiet
import Derived.Deep.DeepCutAuto
import Derived.Deep.CutBlock
import Derived.Deep.RegionWith
namespace Go.Proofs.YtjplhiflemmkfaaGreatDoor.Aa
open Go.RowKit

theorem hide {p : Prop} (h : p) : Hid p := h
theorem unhide {p : Prop} (h : Hid p) : p := h
theorem ret_int {k : IntKind} {a b : Int} (h : a = b) : Ending.returned (.int k a) = .returned (.int k b) := by rw [h]

theorem blk_lt {w : World} {a : Addr} {u : Value} (h : w.cell? a = some u) : a.block < w.heap.size := by
  simp only [World.cell?] at h
  by_cases hb : a.block < w.heap.size
  · exact hb
  · rw [Array.getElem?_eq_none (by omega)] at h; simp at h

theorem take_succ {α : Type} (bs : List α) (d : α) (k : Nat) (h : k < bs.length) : bs.take (k + 1) = bs.take k ++ [bs.getD k d] := by
  rw [List.take_succ_eq_append_getElem h, List.getD_eq_getElem?_getD, List.getElem?_eq_getElem h]; rfl

/-! ### what a call keeps: all below a block; above it all blocks but those of some types -/
def Only (base : Nat) (ts : List TypeId) (w w' : World) : Prop :=
  Below base w w' ∧ ∀ k, k < w.heap.size → (∀ cur e fr, w.heap[k]? = some (.cells cur e fr) → e ∉ ts) → w'.heap[k]? = w.heap[k]?

theorem Only.refl (base : Nat) (ts : List TypeId) (w : World) : Only base ts w w := ⟨Below.refl _ _, fun _ _ _ => rfl⟩
theorem Only.trans {base : Nat} {ts : List TypeId} {a b c : World} (h : Only base ts a b) (k : Only base ts b c) : Only base ts a c := by
  refine ⟨h.1.trans k.1, fun j hj ht => ?_⟩
  have e := h.2 j hj ht
  rw [← e]
  exact k.2 j (Nat.lt_of_lt_of_le hj h.1.size) (fun cur ty fr hc => ht cur ty fr (e ▸ hc))
theorem Only.mono {base base' : Nat} {ts ts' : List TypeId} {w w' : World} (h : Only base ts w w') (hb : base' ≤ base) (ht : ts ⊆ ts') : Only base' ts' w w' :=
  ⟨h.1.mono hb, fun k hk h' => h.2 k hk (fun cur e fr hc hm => h' cur e fr hc (ht hm))⟩
theorem Only.of_below {base : Nat} {ts : List TypeId} {w w' : World} (h : Below w.heap.size w w') (hb : base ≤ w.heap.size) : Only base ts w w' :=
  ⟨h.mono hb, fun k hk _ => h.block k hk⟩
theorem Only.below {base : Nat} {ts : List TypeId} {w w' : World} (h : Only base ts w w') : Below base w w' := h.1
theorem Only.size {base : Nat} {ts : List TypeId} {w w' : World} (h : Only base ts w w') : w.heap.size ≤ w'.heap.size := h.1.size
theorem Only.alloc {base : Nat} {ts : List TypeId} {a w : World} (h : Only base ts a w) (hb : base ≤ w.heap.size) (o : Obj) : Only base ts a (w.alloc o) :=
  h.trans (Only.of_below ((Below.refl _ _).alloc (Nat.le_refl _) o) hb)
theorem Only.grown {base : Nat} {ts : List TypeId} {a w w' : World} {row : Option Nat} (h : Only base ts a w) (hg : w.grownBy w' row) (hb : base ≤ w.heap.size)
    (hr : ∀ k, row = some k → base ≤ k ∧ ∃ cur e fr, w.heap[k]? = some (.cells cur e fr) ∧ e ∈ ts) : Only base ts a w' := by
  refine h.trans ⟨(Below.refl _ _).grown hg hb (fun k hk => (hr k hk).1), fun k hk ht => ?_⟩
  obtain ⟨_, _, _, _, hold⟩ := hg
  refine hold k hk ?_
  intro hk'
  obtain ⟨_, cur, e, fr, hc, he⟩ := hr k hk'.symm
  exact ht cur e fr hc he
theorem heap_setCell_tag {w : World} {p : Addr} {u : Value} {cur : Array Value} {e : TypeId} {fr : Nat × Nat} (h : w.heap[p.block]? = some (.cells cur e fr)) : ∃ cur', (w.setCell p u).heap[p.block]? = some (.cells cur' e fr) := by
  simp [World.setCell, Array.getElem?_modify, h]
theorem Only.setCell {base : Nat} {ts : List TypeId} {a w : World} (h : Only base ts a w) {p : Addr} (hp : base ≤ p.block) (u : Value) {cur : Array Value} {e : TypeId} {fr : Nat × Nat}
    (hc : w.heap[p.block]? = some (.cells cur e fr)) (he : e ∈ ts) : Only base ts a (w.setCell p u) := by
  refine h.trans ⟨(Below.refl _ _).setCell hp u, fun k _ ht => ?_⟩
  refine Below.heap_setCell w p u k ?_
  intro e0
  subst e0
  exact ht _ _ _ hc he
theorem Only.drew {base : Nat} {ts : List TypeId} {a w : World} (h : Only base ts a w) : Only base ts a w.drew := ⟨h.1.drew, h.2⟩
/-- a block of another type stays. -/
theorem Only.block {base : Nat} {ts : List TypeId} {w w' : World} (h : Only base ts w w') {k : Nat} {cur : Array Value} {e : TypeId} {fr : Nat × Nat} (hc : w.heap[k]? = some (.cells cur e fr)) (he : e ∉ ts) :
    w'.heap[k]? = some (.cells cur e fr) := by
  have hk : k < w.heap.size := by
    by_cases hk : k < w.heap.size
    · exact hk
    · rw [Array.getElem?_eq_none (by omega)] at hc; cases hc
  rw [h.2 k hk (fun cur' e' fr' hc' => by rw [hc] at hc'; cases hc'; exact he)]; exact hc
theorem Only.cells {base : Nat} {ts : List TypeId} {w w' : World} (h : Only base ts w w') {k : Nat} {cur : Array Value} {e : TypeId} {fr : Nat × Nat} (hc : w.heap[k]? = some (.cells cur e fr)) (he : e ∉ ts) :
    ∀ o, w'.cell? ⟨k, o, none⟩ = w.cell? ⟨k, o, none⟩ := fun o => World.cell?_of_block (w := w) (a := ⟨k, o, none⟩) (by rw [h.block hc he]; exact hc.symm)

/-! ### rows of bytes of the call's own -/
theorem own_tag {w : World} {base : Nat} {e : TypeId} {size : Nat} {v : Value} {n : Nat} {xs : List Value} (h : w.ownsRow base e size v n xs) : ∀ k, v.ownBlock = some k → base ≤ k ∧ ∃ cur fr, w.heap[k]? = some (.cells cur e fr) := by
  intro k hk
  rcases h.2 with ⟨rfl, _⟩ | ⟨g, cap, cur, rfl, hb, hh, _⟩
  · simp [Value.ownBlock] at hk
  · simp [Value.ownBlock] at hk; subst hk; exact ⟨hb, cur, _, hh⟩
theorem own_kept {w w' : World} {base : Nat} {e : TypeId} {size : Nat} {v : Value} {n : Nat} {xs : List Value} (h : w.ownsRow base e size v n xs) (hk : ∀ k, v.ownBlock = some k → w'.heap[k]? = w.heap[k]?) : w'.ownsRow base e size v n xs := by
  refine ⟨h.1, ?_⟩
  rcases h.2 with h0 | ⟨g, cap, cur, rfl, hb, hh, rest⟩
  · exact Or.inl h0
  · exact Or.inr ⟨g, cap, cur, rfl, hb, by rw [hk g rfl]; exact hh, rest⟩
theorem own_only {w w' : World} {base base' : Nat} {ts : List TypeId} {e : TypeId} {size : Nat} {v : Value} {n : Nat} {xs : List Value} (h : w.ownsRow base e size v n xs) (ho : Only base' ts w w') (he : e ∉ ts) : w'.ownsRow base e size v n xs :=
  own_kept h fun k hk => by
    obtain ⟨_, cur, fr, hc⟩ := own_tag h k hk
    rw [ho.block hc he, hc]
theorem own_below {w w' : World} {base : Nat} {e : TypeId} {size : Nat} {v : Value} {n : Nat} {xs : List Value} (h : w.ownsRow base e size v n xs) (hb : Below w.heap.size w w') : w'.ownsRow base e size v n xs :=
  own_kept h fun k hk => hb.block k (h.lt k hk).2
theorem Only.own {base base' : Nat} {ts : List TypeId} {a w w' : World} {e : TypeId} {size : Nat} {v : Value} {n : Nat} {xs : List Value} (h : Only base ts a w) (hown : w.ownsRow base' e size v n xs) (hg : w.grownBy w' v.ownBlock) (hb : base ≤ w.heap.size) (hbb : base ≤ base') (he : e ∈ ts) : Only base ts a w' :=
  h.grown hg hb fun k hk => by
    obtain ⟨h1, cur, fr, h2⟩ := own_tag hown k hk
    exact ⟨Nat.le_trans hbb h1, cur, e, fr, h2, he⟩

theorem add_block (a : Addr) (i : Nat) : (a.add i).block = a.block := by unfold Addr.add; split <;> rfl
theorem news_at {W : World} {cs : Array Value} {t : TypeId} : ∀ j u, cs.toList[j]? = some u → (W.alloc (.cells cs t)).cell? ((⟨W.heap.size, 0, none⟩ : Addr).add j) = some u := by
  intro j u hj
  rw [Addr.add_lit]
  have : (W.alloc (.cells cs t)).heap[W.heap.size]? = some (.cells cs t) := heap_alloc_new _ _
  simp only [World.cell?, this]
  simpa using hj
/-! ### what a call keeps, block by block: all below a block, and above it all but some -/
def Kept (base : Nat) (f : Nat → Prop) (w w' : World) : Prop := Below base w w' ∧ ∀ k, k < w.heap.size → ¬ f k → w'.heap[k]? = w.heap[k]?
theorem Kept.refl (base : Nat) (f : Nat → Prop) (w : World) : Kept base f w w := ⟨Below.refl _ _, fun _ _ _ => rfl⟩
theorem Kept.trans {base : Nat} {f g : Nat → Prop} {a b c : World} (h : Kept base f a b) (k : Kept base g b c) (hg : ∀ j, j < a.heap.size → g j → f j) : Kept base f a c :=
  ⟨h.1.trans k.1, fun j hj hn => (k.2 j (Nat.lt_of_lt_of_le hj h.1.size) (fun x => hn (hg j hj x))).trans (h.2 j hj hn)⟩
theorem Kept.mono {base base' : Nat} {f g : Nat → Prop} {w w' : World} (h : Kept base f w w') (hb : base' ≤ base) (hg : ∀ j, j < w.heap.size → f j → g j) : Kept base' g w w' :=
  ⟨h.1.mono hb, fun k hk hn => h.2 k hk (fun x => hn (hg k hk x))⟩
theorem Kept.of_below {base : Nat} {f : Nat → Prop} {w w' : World} (h : Below w.heap.size w w') (hb : base ≤ w.heap.size) : Kept base f w w' := ⟨h.mono hb, fun k hk _ => h.block k hk⟩
theorem Kept.size {base : Nat} {f : Nat → Prop} {w w' : World} (h : Kept base f w w') : w.heap.size ≤ w'.heap.size := h.1.size
theorem Kept.setCell {base : Nat} {f : Nat → Prop} {a w : World} (h : Kept base f a w) {p : Addr} (hp : base ≤ p.block) (hf : f p.block) (u : Value) : Kept base f a (w.setCell p u) :=
  h.trans (g := fun k => k = p.block) ⟨(Below.refl _ _).setCell hp u, fun k _ hn => Below.heap_setCell w p u k hn⟩ (fun _ _ e => e ▸ hf)
theorem Kept.alloc {base : Nat} {f : Nat → Prop} {a w : World} (h : Kept base f a w) (hb : base ≤ w.heap.size) (o : Obj) : Kept base f a (w.alloc o) :=
  h.trans (g := f) (Kept.of_below ((Below.refl _ _).alloc (Nat.le_refl _) o) hb) (fun _ _ x => x)
theorem Kept.drew {base : Nat} {f : Nat → Prop} {a w : World} (h : Kept base f a w) : Kept base f a w.drew := ⟨h.1.drew, h.2⟩
theorem Kept.own {base base' : Nat} {f : Nat → Prop} {w w' : World} {e : TypeId} {size : Nat} {v : Value} {n : Nat} {xs : List Value} (h : Kept base f w w') (hown : w.ownsRow base' e size v n xs) (hn : ∀ k, v.ownBlock = some k → ¬ f k) : w'.ownsRow base' e size v n xs :=
  own_kept hown fun k hk => h.2 k (hown.lt k hk).2 (hn k hk)
end Go.Proofs.YtjplhiflemmkfaaGreatDoor.Aa
namespace Go.Proofs.YtjplhiflemmkfaaGreatDoor.Aa
open Go.RowKit Go.Extern.Stop Go.Stop Go.Extern

theorem Tryz.methodComparable (h : Value) (w : World) : (Go.method 509 284 (.agg #[h]) "Comparable").run Tryz.prog w = .ok (360, .agg #[h]) w := by kernel_rfl
theorem Tryz.methodUnwrapR (h : Value) (w : World) : (Go.method 509 331 h "Unwrap").run Tryz.prog w = .ok (373, h) w := by kernel_rfl
theorem Tryz.typeOfNum (v : Value) (w : World) : (ReflectliteType.typeOf #[.iface 32 v]).run Tryz.prog w = .ok (.iface 284 (.agg #[.pointer (some ⟨2, 32, none⟩)])) w := by kernel_rfl
theorem Tryz.noIsNum (v : Value) (xT : TypeId) (w : World) : (Instr.typeAssert (.iface 32 v) xT 296 true).run Tryz.prog w = .ok (.tuple #[.nilIface, .bool false]) w := run_typeAssert_lacksB Tryz.underlying296 (by kernel_rfl) (by kernel_rfl) v xT w
theorem Tryz.noUnNum (v : Value) (xT : TypeId) (w : World) : (Instr.typeAssert (.iface 32 v) xT 291 true).run Tryz.prog w = .ok (.tuple #[.nilIface, .bool false]) w := run_typeAssert_lacksB Tryz.underlying291 (by kernel_rfl) (by kernel_rfl) v xT w
theorem Tryz.noUnsNum (v : Value) (xT : TypeId) (w : World) : (Instr.typeAssert (.iface 32 v) xT 293 true).run Tryz.prog w = .ok (.tuple #[.nilIface, .bool false]) w := run_typeAssert_lacksB Tryz.underlying293 (by kernel_rfl) (by kernel_rfl) v xT w
theorem Tryz.noIsR (v : Value) (xT : TypeId) (w : World) : (Instr.typeAssert (.iface 331 v) xT 296 true).run Tryz.prog w = .ok (.tuple #[.nilIface, .bool false]) w := run_typeAssert_lacksB Tryz.underlying296 (by kernel_rfl) (by kernel_rfl) v xT w
theorem Tryz.hasUnR (v : Value) (xT : TypeId) (w : World) : (Instr.typeAssert (.iface 331 v) xT 291 true).run Tryz.prog w = .ok (.tuple #[.iface 331 v, .bool true]) w := run_typeAssert_hasB Tryz.underlying291 (by kernel_rfl) v xT w

section
variable {P : Program} (w : World)
theorem run_equalIn_num (d : Nat) {ti tn : TypeId} {ms : Array (String × TypeId)} {i : TypeInfo} {k : IntKind} (a b : Int)
    (hi : P.underlying ti = some (.interface ms)) (hn : P.underlying tn = some (.int k)) (hinfo : P.info? tn = some i) (hcomp : i.comparable = true) :
    (Op.equalIn (d + 2) ti (.iface tn (.int k a)) (.iface tn (.int k b))).run P w = .ok (a == b) w := by
  simp [Op.equalIn, run_underlying hi, run_underlying hn, typeInfo, hinfo, hcomp]
theorem run_eql_num {ti tn : TypeId} {ms : Array (String × TypeId)} {i : TypeInfo} {k : IntKind} (a b : Int)
    (hi : P.underlying ti = some (.interface ms)) (hn : P.underlying tn = some (.int k)) (hinfo : P.info? tn = some i) (hcomp : i.comparable = true) :
    (binOp .eql ti (.iface tn (.int k a)) (.iface tn (.int k b))).run P w = .ok (.bool (a == b)) w := by
  simp only [binOp]
  simp [Op.equal, Op.maxDepth, run_equalIn_num w 9998 a b hi hn hinfo hcomp]
end
theorem Tryz.compNum : (Tryz.prog.info? 32).map (·.comparable) = some true := by kernel_rfl
theorem eqlNum (a b : Int) (w : World) : (binOp .eql 107 (.iface 32 (.int .i64 a)) (.iface 32 (.int .i64 b))).run Tryz.prog w = .ok (.bool (a == b)) w := by
  obtain ⟨i, hi, hcmp⟩ := Option.map_eq_some_iff.1 Tryz.compNum
  exact run_eql_num w a b Tryz.underlying107 Tryz.underlying32 hi hcmp
theorem eqlRN (x y : Value) (w : World) : (binOp .eql 107 (.iface 331 x) (.iface 32 y)).run Tryz.prog w = .ok (.bool false) w :=
  run_eql_iface_types (P := Tryz.prog) 331 32 x y Tryz.underlying107 (by decide) w

/-- a refusal around a number. -/
def Ref (w : World) (b : Nat) (c : Int) : Prop := ∃ x, w.heap[b]? = some (.cells #[.int .i64 x, .iface 32 (.int .i64 c)] 333 (0, 0))
def refV (b : Nat) : Value := .iface 331 (.pointer (some ⟨b, 0, none⟩))

set_option maxHeartbeats 400000 in
theorem is_ref_num (n m : Int) (b : Nat) (w : World) (h : Ref w b n) : Calls Tryz.prog 211 #[refV b, .iface 32 (.int .i64 m), .bool true] w fun ev w' => ev = .returned (.bool (n == m)) ∧ w' = w := by
  have q1 := eqlRN
  have q2 := eqlNum
  have m1 := Tryz.noIsR
  have m2 := Tryz.hasUnR
  have m3 := Tryz.noIsNum
  have m4 := Tryz.noUnNum
  have m5 := Tryz.noUnsNum
  have m6 := Tryz.methodUnwrapR
  have c2 : w.cell? ⟨b, 1, none⟩ = some (.iface 32 (.int .i64 n)) := by obtain ⟨x, h⟩ := h; simp only [World.cell?]; rw [h]; rfl
  clear h
  unfold refV
  go_enter Tryz.func211, Tryz.ntmps211
  go_wp2
  go_loopg [0] 1 (fun k v wr => wr = w ∧ ((k = 1 ∧ v = .iface 331 (.pointer (some ⟨b, 0, none⟩))) ∨ v = .iface 32 (.int .i64 n)))
  case atStart => exact ⟨rfl, Or.inl ⟨rfl, rfl⟩⟩
  case round =>
    obtain ⟨rfl, ⟨rfl, rfl⟩ | rfl⟩ := hrel
    · go_wp2
      go_roundg 0
      case measure => decide
      case rel => exact ⟨rfl, Or.inr rfl⟩
    · cases hnm : (n == m) with
      | true =>
        go_wp2
        go_ret
        exact ⟨by rw [hnm]; rfl, rfl⟩
      | false =>
        go_wp2
        go_ret
        exact ⟨by rw [hnm]; rfl, rfl⟩
theorem comparableNum (w : World) : (callFunc 360 #[.agg #[.pointer (some ⟨2, 32, none⟩)]]).run Tryz.prog w = .ok (.value (.bool true)) w := by
  have h55 := @run_callFunc_extern Tryz.prog 360 _ (ReflectliteType.method fun t => do Rtype.noPackHeld "Comparable" t; pure (.bool (← typeInfo t).comparable)) Tryz.func360 (by kernel_rfl) (by kernel_rfl) (by kernel_rfl) (by kernel_rfl)
  rw [h55, show ((ReflectliteType.method fun t => do Rtype.noPackHeld "Comparable" t; pure (.bool (← typeInfo t).comparable)) #[.agg #[.pointer (some ⟨2, 32, none⟩)]]).run Tryz.prog w = .ok (.bool true) w by kernel_rfl]
  rfl
set_option maxRecDepth 20000 in
theorem Is_ref (n m : Int) (b : Nat) (w : World) (h : Ref w b n) : Calls Tryz.prog 142 #[refV b, .iface 32 (.int .i64 m)] w fun e w' => e = .returned (.bool (n == m)) ∧ w' = w := by
  have h10 := @run_callFunc_extern Tryz.prog 210 _ ReflectliteType.typeOf Tryz.func210 (by kernel_rfl) (by kernel_rfl) (by kernel_rfl) (by kernel_rfl)
  have tO := Tryz.typeOfNum
  have mC := Tryz.methodComparable
  have c24 := comparableNum
  have H := hide h
  clear h
  unfold refV
  go_enter Tryz.func142, Tryz.ntmps142
  go_wp2_with (go_at_call 211; refine (is_ref_num n m b _ (unhide H)).mono ?_; rintro e w' ⟨rfl, rfl⟩)
  go_ret
  exact ⟨rfl, rfl⟩
/-- the number of a refusal: 1, or else 19. -/
def numR (c : Int) : Int := if c = 1 then 1 else 19
theorem number_ref (c : Int) (b : Nat) (w : World) (h : Ref w b c) : Calls Tryz.prog 239 #[refV b] w fun e w' => e = .returned (.int .i64 (numR c)) ∧ w' = w := by
  have H := hide h
  clear h
  by_cases h1 : c = 1
  · subst h1
    go_enter Tryz.func239, Tryz.ntmps239
    go_wp2_with (go_at_call 142; refine (Is_ref 1 _ b _ (unhide H)).mono ?_; rintro e w' ⟨rfl, rfl⟩)
    go_ret
    exact ⟨rfl, rfl⟩
  · have e1 : (c == 1) = false := by simp [h1]
    have HN : Hid (numR c = 19) := by show _ = _; simp [numR, h1]
    clear h1
    go_enter Tryz.func239, Tryz.ntmps239
    go_wp2_with (go_at_call 142; refine (Is_ref c _ b _ (unhide H)).mono ?_; rintro e w' ⟨rfl, rfl⟩)
    go_ret
    exact ⟨by rw [unhide HN]; rfl, rfl⟩
theorem Ref.new (w : World) (x c : Int) {b : Nat} (hb : b = w.heap.size) : Ref (w.alloc (.cells #[.int .i64 x, .iface 32 (.int .i64 c)] 333)) b c := ⟨x, by rw [hb]; exact heap_alloc_new _ _⟩
end Go.Proofs.YtjplhiflemmkfaaGreatDoor.Aa
namespace Go.Proofs.YtjplhiflemmkfaaGreatDoor.Aa
open Go.RowKit Go.Maps

theorem drewN_below (w : World) (k : Nat) : Below w.heap.size w (w.drewN k) := ⟨rfl, rfl, rfl, Nat.le_refl _, fun _ _ => rfl⟩
theorem Tryz.infoI : (Tryz.prog.info? 3).map (fun i => (i.zero, i.size, i.bytes)) = some (some (.int .i64 0), 1, 8) := by kernel_rfl
/-- a slice of numbers. -/
def IntsR (w : World) (ao : Option Addr) (ys : List Int) : Prop := ∀ i, i < ys.length → ∃ a, ao = some a ∧ w.cell? (a.add i) = some (.int .i64 (ys.getD i 0))
theorem IntsR.below {w w' : World} {ao : Option Addr} {ys : List Int} (h : IntsR w ao ys) (hb : Below w.heap.size w w') : IntsR w' ao ys := fun i hi => by
  obtain ⟨a, e, hc⟩ := h i hi
  exact ⟨a, e, by rw [hb.cell (blk_lt hc)]; exact hc⟩
theorem IntsR.nil (w : World) (ao : Option Addr) : IntsR w ao [] := fun i hi => by simp at hi
theorem IntsR.none_nil {w : World} {ys : List Int} (h : IntsR w none ys) : ys = [] := by
  cases ys with
  | nil => rfl
  | cons y ys => obtain ⟨a, e, _⟩ := h 0 (by simp); cases e
theorem ext_getD {xs ys : List Int} (h : xs.length = ys.length) (hj : ∀ j, j < xs.length → xs.getD j 0 = ys.getD j 0) : xs = ys := by
  apply List.ext_getElem h
  intro i h1 h2
  have := hj i h1
  rw [List.getD_eq_getElem?_getD, List.getD_eq_getElem?_getD, List.getElem?_eq_getElem h1, List.getElem?_eq_getElem h2] at this
  simpa using this
theorem drop_getD {xs : List Int} {k : Nat} (h : k < xs.length) : xs.drop k = xs.getD k 0 :: xs.drop (k + 1) := by
  rw [List.drop_eq_getElem_cons h, List.getD_eq_getElem?_getD, List.getElem?_eq_getElem h]; rfl
theorem mem_getD {xs : List Int} {k : Nat} (h : k < xs.length) : xs.getD k 0 ∈ xs := by
  rw [List.getD_eq_getElem?_getD, List.getElem?_eq_getElem h]; exact List.getElem_mem h

/-! ### such as the library's contracts speak of: no element of an array within a struct -/
def Fr (w : World) (ao : Option Addr) (ys : List Int) : Prop := IntsR w ao ys ∧ ∀ a, ao = some a → ∃ b off, a = ⟨b, off, none⟩
theorem Fr.below {w w' : World} {ao : Option Addr} {ys : List Int} (h : Fr w ao ys) (hb : Below w.heap.size w w') : Fr w' ao ys := ⟨h.1.below hb, h.2⟩
theorem Fr.take {w : World} {ao : Option Addr} {ys : List Int} (h : Fr w ao ys) (n : Nat) : Fr w ao (ys.take n) := by
  refine ⟨fun i hi => ?_, h.2⟩
  rw [List.length_take] at hi
  obtain ⟨a, e, hc⟩ := h.1 i (by omega)
  refine ⟨a, e, ?_⟩
  rw [hc, List.getD_eq_getElem?_getD, List.getD_eq_getElem?_getD, List.getElem?_take_of_lt (by omega)]
theorem Fr.at {w : World} {ao : Option Addr} {ys : List Int} (h : Fr w ao ys) : ys = [] ∨ ∃ b off, ao = some ⟨b, off, none⟩ ∧ ∀ j, j < ys.length → w.cell? ⟨b, off + j, none⟩ = some (.int .i64 (ys.getD j 0)) := by
  by_cases hy : ys = []
  · exact Or.inl hy
  · right
    have h0 : 0 < ys.length := List.length_pos_iff.2 hy
    obtain ⟨a, rfl, _⟩ := h.1 0 h0
    obtain ⟨b, off, rfl⟩ := h.2 a rfl
    refine ⟨b, off, rfl, fun j hj => ?_⟩
    obtain ⟨a', e, hc⟩ := h.1 j hj
    cases e
    rw [Addr.add_lit] at hc; exact hc

/-! ### rows of the call's own -/
def i64s (ys : List Int) : List Value := ys.map (Value.int .i64)
theorem i64s_append (xs ys : List Int) : i64s (xs ++ ys) = i64s xs ++ i64s ys := by simp [i64s]
theorem i64s_one (ys : List Int) : ∀ u ∈ i64s ys, u.oneCell' = true := fun u hu => by
  simp only [i64s, List.mem_map] at hu; obtain ⟨y, _, rfl⟩ := hu; rfl
/-- v is a row of the call's own, of the numbers ys. -/
def Ir (base : Nat) (w : World) (v : Value) (ys : List Int) : Prop := w.ownsRow base 3 1 v ys.length (i64s ys)
theorem Ir.below {base : Nat} {w w' : World} {v : Value} {ys : List Int} (h : Ir base w v ys) (hb : Below w.heap.size w w') : Ir base w' v ys := own_below h hb
theorem Ir.nil (base : Nat) (w : World) : Ir base w (.slice none 0 0) [] := ⟨by simp [i64s], Or.inl ⟨rfl, rfl⟩⟩
theorem Ir.slice {base : Nat} {w : World} {v : Value} {ys : List Int} (h : Ir base w v ys) : ∃ ao cap, v = .slice ao ys.length cap ∧ Fr w ao ys ∧ ys.length ≤ cap ∧ cap ≤ maxLen := by
  rcases h.2 with ⟨rfl, h0⟩ | ⟨g, cap, cur, rfl, hb, hh, hc, hm, hs, ht⟩
  · have : ys = [] := List.eq_nil_of_length_eq_zero h0
    subst this
    exact ⟨none, 0, rfl, ⟨IntsR.nil _ _, fun a ha => by cases ha⟩, Nat.le_refl _, by decide⟩
  · refine ⟨_, cap, rfl, ⟨fun i hi => ⟨_, rfl, ?_⟩, fun a ha => ⟨g, 0, by cases ha; rfl⟩⟩, hc, hm⟩
    refine World.ownsRow.cells h (g := g) rfl i _ ?_
    rw [i64s, List.getElem?_map, List.getElem?_eq_getElem hi, List.getD_eq_getElem?_getD, List.getElem?_eq_getElem hi]; rfl
/-- append: the source may be nil; an operation's law. -/
theorem wpList_app {w : World} {ops : Array Oper} {rest : List Oper} {o : Oper} {a : Act} {Q : Exit → Act → World → Prop} (hgd : o.guard = none) (s x : Operand)
    (ho : o.op = .call { callee := .builtin .append, args := #[s, x], argTypes := #[24, 24] }) (base : Nat) (v : Value) (xs : List Int) (hs : a.eval s = v) (hown : Ir base w v xs)
    (ao : Option Addr) (m c : Nat) (ys : List Int) (hx : a.eval x = .slice ao m c) (hm : ys.length = m) (hy : IntsR w ao ys) (hl : xs.length + m ≤ 1000000000) (hb : base ≤ w.heap.size)
    (h : ∀ v' w', Ir base w' v' (xs ++ ys) → w.grownBy w' v.ownBlock → wpList Tryz.prog ops Q rest (a.put o.dst v') w') : wpList Tryz.prog ops Q (o :: rest) a w := by
  obtain ⟨i0, hi0, hz0, hz1, hz2⟩ := info_parts Tryz.infoI
  refine wpList_plain hgd fun K hK => ?_
  have key : ∃ v' w', (Builtin.append_ #[24, 24] o.type #[v, .slice ao m c]).run Tryz.prog w = .ok v' w' ∧ Ir base w' v' (xs ++ ys) ∧ w.grownBy w' v.ownBlock := by
    cases ao with
    | none =>
      obtain rfl := hy.none_nil
      simp only [List.length_nil] at hm
      subst hm
      obtain ⟨av, cv, rfl, _, hc, _⟩ := hown.slice
      have hr := run_append_nothing (P := Tryz.prog) w 24 24 o.type 3 i0 Tryz.underlying24 hi0 av xs.length cv hc (.slice none 0 c) (Src.ofNil w Tryz.underlying24 c)
      exact ⟨_, _, hr, by simpa using hown, ⟨rfl, rfl, rfl, Nat.le_refl _, fun _ _ _ => rfl⟩⟩
    | some ad =>
      obtain ⟨v', w', hr, o', g', _⟩ := run_append_own_at (P := Tryz.prog) w base 24 o.type 3 i0 _ 1 8 Tryz.underlying24 hi0 hz0 hz1 hz2 rfl (by decide) v xs.length (i64s xs) hown ad m c (i64s ys) (by rw [i64s, List.length_map, hm]; omega)
        (fun j u hj => by
          rw [i64s, List.getElem?_map] at hj
          cases hq : ys[j]? with
          | none => rw [hq] at hj; simp at hj
          | some y =>
            rw [hq] at hj; simp at hj; subst hj
            obtain ⟨a, e, hcell⟩ := hy j (List.getElem?_eq_some_iff.1 hq).1
            cases e
            rw [hcell, List.getD_eq_getElem?_getD, hq]; rfl)
        (i64s_one ys) (by unfold maxLen; omega) (by omega) hb
      refine ⟨v', w', hr, ?_, g'⟩
      unfold Ir
      rw [List.length_append, hm, i64s_append]; exact o'
  obtain ⟨v', w', hr, h1, h2⟩ := key
  unfold Oper.wp execOp
  simp only [ho, resolve, invoke, builtin, Sem.run_bind, Sem.run_pure, Result.andThen_ok, List.map_toArray, List.map_cons, List.map_nil, hs, hx, hr]
  exact hK _ _ (h v' w' h1 h2)
theorem Ir.grown {base : Nat} {a w w' : World} {v : Value} {xs : List Int} (h : Ir base w v xs) (hg : w.grownBy w' v.ownBlock) (hb : Below base a w) (hbb : base ≤ w.heap.size) : Below base a w' :=
  hb.grown hg hbb (fun k hk => (h.lt k hk).1)
end Go.Proofs.YtjplhiflemmkfaaGreatDoor.Aa

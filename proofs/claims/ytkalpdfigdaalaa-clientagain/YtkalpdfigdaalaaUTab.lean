/- Tables in memory; New, Len: contracts. -/
import Derived.Test.YtkalpdfigdaalaaUTwin
import Derived.Test.YtkalpdfigdaalaaUErr
import Derived.Test.YtkalpdfigdaalaaUPure
import Derived.Maps.OwnSet
import Derived.Maps.Own
namespace Go.Proofs.Ytkalpdfigdaalaa
open Go.RowKit Go.Maps
attribute [local go_sem ↓] Go.wp_at_zero Go.wp_at_succ

theorem keyed : Keyed Try.prog 3 := int_keyed Try.underlying3
theorem zeroIs (w : World) : (zeroValue 23).run Try.prog w = .ok (.slice none 0 0) w := by kernel_rfl
/-- an element that is held as it is. -/
def asIs (v : Value) : Option (DataW Value × List MemPlace) := some (.held v, [])
def wf64 (x : Int) : Prop := (Lit.int .i64 x).wf = true
theorem wf_range {x : Int} (h : -9223372036854775808 ≤ x ∧ x ≤ 9223372036854775807) : wf64 x := by
  unfold wf64; exact WalkArith.wf_i64 (by omega)
/-- places as the numbers that they are. -/
def ints (ps : List Nat) : List Int := ps.map fun p => ((p : Nat) : Int)
theorem ints_len (ps : List Nat) : (ints ps).length = ps.length := by simp [ints]
theorem ints_at (ps : List Nat) {i p : Nat} (h : ps[i]? = some p) : (ints ps).getD i 0 = (p : Int) := by
  simp [ints, List.getD_eq_getElem?_getD, h]
/-- the places in a map, by client: each client's row is its own. -/
def Pm (F : Nat → Prop) (w : World) (q : Nat) (es : List En) : Prop :=
  ∃ (M : DataW Value) (V : Int → Value), w.ownsMap Try.prog 3 asIs q es.length M ∧
    (∀ x : Int, M.atKey (.int .i64 x) (.held (.slice none 0 0)) = .held (V x) ∧ Ir 0 w (V x) (ints (plc x es)) ∧ ∀ k, (V x).ownBlock = some k → F k) ∧
    ∀ (x y : Int) (k : Nat), x ≠ y → (V x).ownBlock = some k → (V y).ownBlock = some k → False
/-- a table at block p, its map at q: the entries, in E; the places, in F; all within D. -/
structure Tb (D : Nat → Prop) (w : World) (p q : Nat) (es : List En) : Prop where
  parts : ∃ (E F : Nat → Prop) (rv : Value), w.heap[p]? = some (.cells #[rv, .map (some q)] 54 (0, 0)) ∧ ERow E w rv es ∧ Pm F w q es ∧
    (∀ k, E k → D k) ∧ (∀ k, F k → D k) ∧ (∀ k, E k → ¬ F k) ∧ ¬ E p ∧ ¬ F p ∧ ¬ E q ∧ ¬ F q
  own : D p ∧ D q
  lt : ∀ k, D k → k < w.heap.size
theorem Pm.kp {F E : Nat → Prop} {w w' : World} {q : Nat} {es : List En} (h : Pm F w q es) (hk : Kp E w w') (hq : ¬ E q) (hd : ∀ k, F k → ¬ E k) : Pm F w' q es := by
  obtain ⟨M, V, ⟨ms, cl, h1, h2⟩, h3, h4⟩ := h
  refine ⟨M, V, ⟨ms, cl, hk.block h1 hq, h2⟩, fun x => ?_, h4⟩
  obtain ⟨k1, k2, k3⟩ := h3 x
  exact ⟨k1, k2.kp hk (fun k hk' => hd k (k3 k hk')), k3⟩
theorem Pm.below {F : Nat → Prop} {w w' : World} {q : Nat} {es : List En} (h : Pm F w q es) (hb : Below w.heap.size w w') : Pm F w' q es := h.kp (E := fun _ => False) (Kp.of_below hb) (fun x => x) (fun _ _ x => x)
theorem Pm.mono {F G : Nat → Prop} {w : World} {q : Nat} {es : List En} (h : Pm F w q es) (hg : ∀ k, F k → G k) : Pm G w q es := by
  obtain ⟨M, V, h1, h3, h4⟩ := h
  exact ⟨M, V, h1, fun x => ⟨(h3 x).1, (h3 x).2.1, fun k hk => hg k ((h3 x).2.2 k hk)⟩, h4⟩
theorem Pm.isMap {F : Nat → Prop} {w : World} {q : Nat} {es : List En} (h : Pm F w q es) : ∃ ms cl, w.heap[q]? = some (.map ms cl) := by
  obtain ⟨M, V, ⟨ms, cl, h1, _⟩, _⟩ := h; exact ⟨ms, cl, h1⟩
theorem Tb.kp {D E : Nat → Prop} {w w' : World} {p q : Nat} {es : List En} (h : Tb D w p q es) (hk : Kp E w w') (hd : ∀ k, D k → ¬ E k) : Tb D w' p q es := by
  obtain ⟨⟨A, F, rv, h1, h2, h3, hA, hF, h4, h5, h6, h7, h8⟩, ⟨hp, hq⟩, hl⟩ := h
  exact ⟨⟨A, F, rv, hk.block h1 (hd p hp), h2.kp hk (fun k x => hd k (hA k x)), h3.kp hk (hd q hq) (fun k x => hd k (hF k x)), hA, hF, h4, h5, h6, h7, h8⟩, ⟨hp, hq⟩, fun k x => Nat.lt_of_lt_of_le (hl k x) hk.size⟩
theorem Tb.below {D : Nat → Prop} {w w' : World} {p q : Nat} {es : List En} (h : Tb D w p q es) (hb : Below w.heap.size w w') : Tb D w' p q es := h.kp (E := fun _ => False) (Kp.of_below hb) (fun _ _ x => x)
/-- the front of a table: what New makes. -/
theorem new_any (w : World) : Calls Try.prog 9 #[] w fun e w' => ∃ p q, e = .returned (.pointer (some ⟨p, 0, none⟩)) ∧ Tb (fun k => w.heap.size ≤ k ∧ k < w'.heap.size) w' p q [] ∧ Below w.heap.size w w' := by
  have hmm := @run_makeMap Try.prog
  go_enter Try.func9, Try.ntmps9
  go_wp2
  go_ret
  have s1 : (w.alloc (.map #[] 0)).heap.size = w.heap.size + 1 := World.size_alloc _ _
  have b1 : Below w.heap.size w (w.alloc (.map #[] 0)) := (Below.refl _ w).alloc (Nat.le_refl _) _
  have s2 : ((w.alloc (.map #[] 0)).alloc (.cells #[.slice none 0 0, .map (some w.heap.size)] 54)).heap.size = w.heap.size + 2 := by rw [World.size_alloc, s1]
  refine ⟨_, w.heap.size, rfl, ⟨⟨fun _ => False, fun _ => False, .slice none 0 0, ?_, ERow.nil _ _, ?_, fun k x => x.elim, fun k x => x.elim, fun k x => x.elim, fun x => x, fun x => x, fun x => x, fun x => x⟩, ⟨⟨by omega, by omega⟩, ⟨by omega, by omega⟩⟩, fun k hk => hk.2⟩, b1.alloc (by omega) _⟩
  · have := box_at (w.alloc (.map #[] 0)) (.cells #[.slice none 0 0, .map (some w.heap.size)] 54)
    rw [s1] at this; exact this
  · exact ⟨.map [], fun _ => .slice none 0 0, (World.ownsMap_made w Try.prog 3 asIs).alloc _, fun x => ⟨rfl, Ir.nil _ _, fun k hk => by simp [Value.ownBlock] at hk⟩, fun x y k _ hk _ => by simp [Value.ownBlock] at hk⟩
/-- a client is looked up. -/
theorem Pm.look {F : Nat → Prop} {w : World} {q : Nat} {es : List En} (h : Pm F w q es) {x : Int} (hx : wf64 x) :
    ∃ ao cap, (Instr.lookup 52 (.map (some q)) (.int .i64 x) false).run Try.prog w = .ok (.slice ao (plc x es).length cap) w ∧ Ir 0 w (.slice ao (plc x es).length cap) (ints (plc x es)) ∧ ∀ k, (Value.slice ao (plc x es).length cap).ownBlock = some k → F k := by
  obtain ⟨M, V, h1, h3, -⟩ := h
  obtain ⟨k1, k2, k3⟩ := h3 x
  obtain ⟨ao, cap, e, -⟩ := k2.slice
  rw [ints_len] at e
  obtain ⟨v, ps, r1, r2⟩ := h1.lookup keyed Try.underlying52 (zeroIs w) rfl (keyOf_int_mk Try.underlying3 hx)
  rw [k1] at r2
  simp only [asIs, Option.some.injEq, Prod.mk.injEq, DataW.held.injEq] at r2
  rw [r2.1, e] at r1
  rw [e] at k2 k3
  exact ⟨ao, cap, r1, k2, k3⟩
theorem len_any {D : Nat → Prop} {w : World} {p q : Nat} {es : List En} (h : Tb D w p q es) : Calls Try.prog 14 #[.pointer (some ⟨p, 0, none⟩)] w fun e w' => e = .returned (.int .i64 (es.length : Int)) ∧ w' = w := by
  obtain ⟨⟨A, F, rv, h1, h2, -⟩, -, -⟩ := h
  obtain ⟨ao, cap, rfl, -⟩ := h2.slice
  have c0 : w.cell? ⟨p, 0, none⟩ = some (.slice ao es.length cap) := (cell_of_block h1).trans rfl
  clear h1 h2
  go_enter Try.func14, Try.ntmps14
  go_wp2
  go_ret
  exact ⟨rfl, rfl⟩
end Go.Proofs.Ytkalpdfigdaalaa

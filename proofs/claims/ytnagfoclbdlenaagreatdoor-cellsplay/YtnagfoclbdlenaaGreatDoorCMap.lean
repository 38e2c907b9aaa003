/- A map of bytes by number: what it holds; a look-up, a store, a deletion. -/
import Derived.Test.YtnagfoclbdlenaaGreatDoorBase
import Derived.Test.YtnagfoclbdlenaaGreatDoorCSort
import Derived.Maps.OwnSet
import Derived.Maps.Own
namespace Go.Proofs.YtnagfoclbdlenaaGreatDoor
open Go.RowKit Go.Maps

theorem keyed : Keyed Tryz.prog 3 := int_keyed Tryz.underlying3
theorem zeroBytes (w : World) : (zeroValue 38).run Tryz.prog w = .ok (.slice none 0 0) w := by kernel_rfl
/-- an element that is held as it is. -/
def asIs (v : Value) : Option (DataW Value × List MemPlace) := some (.held v, [])
def wf64 (x : Int) : Prop := (Lit.int .i64 x).wf = true
theorem wf_small64 {x : Int} (h : -1000000 ≤ x ∧ x ≤ 1000000) : wf64 x := WalkArith.wf_i64 (by omega)

/-- what a key has: nothing, or bytes of the call's own. -/
def Has (base : Nat) (w : World) (D : DataW Value) (x : Int) (bs : List Nat) : Prop :=
  (bs = [] ∧ Maps.has D (.int .i64 x) = false ∧ D.atKey (.int .i64 x) (.held (.slice none 0 0)) = .held (.slice none 0 0)) ∨
  (bs ≠ [] ∧ Maps.has D (.int .i64 x) = true ∧ ∃ v, D.atKey (.int .i64 x) (.held (.slice none 0 0)) = .held v ∧ Own base w v bs)
/-- block b is a map of bytes; f says what each key has; c bounds how many there are. -/
def Hv (base : Nat) (w : World) (b : Nat) (f : Int → List Nat) (c : Nat) : Prop :=
  base ≤ b ∧ ∃ D : DataW Value, w.ownsMap Tryz.prog 3 asIs b c D ∧ (∀ x, f x ≠ [] → 0 ≤ x ∧ x < 8) ∧ ∀ x : Int, Has base w D x (f x)
def upF (f : Int → List Nat) (x : Int) (bs : List Nat) (y : Int) : List Nat := if y = x then bs else f y

theorem own_not_map {w : World} {base : Nat} {v : Value} {bs : List Nat} {b : Nat} {es : Array MapEntry} {cl : Nat} (h : Own base w v bs) (hb : w.heap[b]? = some (.map es cl)) : v.ownBlock ≠ some b := fun e => by
  obtain ⟨_, cur, fr, hc⟩ := own_tag h.1 b e
  rw [hb] at hc; cases hc
theorem Has.kept {base : Nat} {w w' : World} {D : DataW Value} {x : Int} {bs : List Nat} (h : Has base w D x bs) (hk : ∀ v, Own base w v bs → Own base w' v bs) : Has base w' D x bs := by
  rcases h with h | ⟨h1, h2, v, h3, h4⟩
  · exact Or.inl h
  · exact Or.inr ⟨h1, h2, v, h3, hk v h4⟩
theorem Hv.below {base : Nat} {w w' : World} {b : Nat} {f : Int → List Nat} {c : Nat} (h : Hv base w b f c) (hb : Below w.heap.size w w') : Hv base w' b f c := by
  obtain ⟨h1, D, ho, h2, h3⟩ := h
  have hl := ho.lt
  obtain ⟨es, cl, e1, e2⟩ := ho
  exact ⟨h1, D, ⟨es, cl, (hb.block b hl).trans e1, e2⟩, h2, fun x => (h3 x).kept fun v hv => ⟨own_below hv.1 hb, hv.2⟩⟩
theorem Hv.mono {base : Nat} {w : World} {b : Nat} {f : Int → List Nat} {c c' : Nat} (h : Hv base w b f c) (hc : c ≤ c') : Hv base w b f c' := by
  obtain ⟨h1, D, ho, h2, h3⟩ := h
  exact ⟨h1, D, ho.mono hc, h2, h3⟩
theorem Hv.lt {base : Nat} {w : World} {b : Nat} {f : Int → List Nat} {c : Nat} (h : Hv base w b f c) : b < w.heap.size := by
  obtain ⟨h1, D, ho, h2, h3⟩ := h; exact ho.lt
/-- a map that was just made. -/
theorem Hv.made (base : Nat) (w : World) (hb : base ≤ w.heap.size) : Hv base (w.alloc (.map #[] 0)) w.heap.size (fun _ => []) 0 :=
  ⟨hb, .map [], World.ownsMap_made w Tryz.prog 3 asIs, fun _ h => absurd rfl h, fun _ => Or.inl ⟨rfl, rfl, rfl⟩⟩
/-- m[x], in whatever world has the same blocks. -/
theorem Hv.look {base : Nat} {w : World} {b : Nat} {f : Int → List Nat} {c : Nat} (h : Hv base w b f c) {x : Int} (hx : wf64 x) :
    ∃ v, (∀ w' : World, w'.heap = w.heap → (Instr.lookup 62 (.map (some b)) (.int .i64 x) false).run Tryz.prog w' = .ok v w') ∧ ((f x = [] ∧ v = .slice none 0 0) ∨ (f x ≠ [] ∧ Own base w v (f x))) := by
  obtain ⟨h1, D, ho, h2, h3⟩ := h
  have key : ∀ v, D.atKey (.int .i64 x) (.held (.slice none 0 0)) = .held v → ∀ w' : World, w'.heap = w.heap → (Instr.lookup 62 (.map (some b)) (.int .i64 x) false).run Tryz.prog w' = .ok v w' := fun v hv w' hw => by
    have ho' : w'.ownsMap Tryz.prog 3 asIs b c D := by obtain ⟨es, cl, e1, e2⟩ := ho; exact ⟨es, cl, by rw [hw]; exact e1, e2⟩
    obtain ⟨v', ps, r1, r2⟩ := ho'.lookup keyed Tryz.underlying62 (zeroBytes w') rfl (keyOf_int_mk Tryz.underlying3 hx)
    rw [hv] at r2
    simp only [asIs, Option.some.injEq, Prod.mk.injEq, DataW.held.injEq] at r2
    rw [← r2.1]; exact r1
  rcases h3 x with ⟨e, _, e2⟩ | ⟨e, _, v, e2, hv⟩
  · exact ⟨_, key _ e2, Or.inl ⟨e, rfl⟩⟩
  · exact ⟨v, key _ e2, Or.inr ⟨e, hv⟩⟩
/-- m[x] = v. -/
theorem Hv.store {base : Nat} {w : World} {b : Nat} {f : Int → List Nat} {c : Nat} (h : Hv base w b f c) {x : Int} (hx : 0 ≤ x ∧ x < 8) (hc : c < 1000000) {v : Value} {bs : List Nat} (hv : Own base w v bs) (hne : bs ≠ []) :
    ∃ w', (Instr.mapUpdate 62 (.map (some b)) (.int .i64 x) v).run Tryz.prog w = .ok () w' ∧ Hv base w' b (upF f x bs) (c + 1) ∧ w.grownBy w' (some b) := by
  obtain ⟨h1, D, ho, h2, h3⟩ := h
  obtain ⟨w', r1, r2, r3⟩ := ho.update keyed Tryz.underlying62 (by unfold maxLen; omega) (keyOf_int_mk Tryz.underlying3 (wf_small64 (by omega : -1000000 ≤ x ∧ x ≤ 1000000))) (val := v) rfl
  have hm := ho.isMap
  have hkeep : ∀ u cs, Own base w u cs → Own base w' u cs := fun u cs hu => ⟨own_kept hu.1 fun k hk => r3.block k (hu.1.lt k hk).2 (fun e => by
    obtain ⟨es, cl, e1, _⟩ := ho
    have e' : k = b := by simpa using e
    exact own_not_map hu e1 (e' ▸ hk)), hu.2⟩
  refine ⟨w', r1, ⟨h1, _, r2, fun y hy => ?_, fun y => ?_⟩, r3⟩
  · unfold upF at hy
    split at hy
    · rename_i e; rw [e]; exact hx
    · exact h2 y hy
  · unfold upF
    by_cases e : y = x
    · rw [if_pos e, e]
      refine Or.inr ⟨hne, has_put_same hm (by simp [WideAt.IsKeyLit]) _, v, atKey_put_same hm (by simp [WideAt.IsKeyLit]) _ _, hkeep v bs hv⟩
    · rw [if_neg e]
      rcases h3 y with ⟨e1, e2, e3⟩ | ⟨e1, e2, u, e3, hu⟩
      · exact Or.inl ⟨e1, by rw [has_put_other (by simpa using e)]; exact e2, by rw [atKey_put_other (by simpa using e)]; exact e3⟩
      · exact Or.inr ⟨e1, by rw [has_put_other (by simpa using e)]; exact e2, u, by rw [atKey_put_other (by simpa using e)]; exact e3, hkeep u _ hu⟩
/-- delete(m, x). -/
theorem Hv.drop {base : Nat} {w : World} {b : Nat} {f : Int → List Nat} {c : Nat} (h : Hv base w b f c) {x : Int} (hx : wf64 x) (ty : TypeId) :
    ∃ w', (Builtin.delete_ #[62, 3] ty #[.map (some b), .int .i64 x]).run Tryz.prog w = .ok (.tuple #[]) w' ∧ Hv base w' b (upF f x []) c ∧ w.grownBy w' (some b) := by
  obtain ⟨h1, D, ho, h2, h3⟩ := h
  obtain ⟨w', r1, r2, r3⟩ := ho.drop keyed Tryz.underlying62 (keyOf_int_mk Tryz.underlying3 hx) ty
  have g3 := r3.grown
  have hkeep : ∀ u cs, Own base w u cs → Own base w' u cs := fun u cs hu => ⟨own_kept hu.1 fun k hk => g3.block k (hu.1.lt k hk).2 (fun e => by
    obtain ⟨es, cl, e1, _⟩ := ho
    have e' : k = b := by simpa using e
    exact own_not_map hu e1 (e' ▸ hk)), hu.2⟩
  refine ⟨w', r1, ⟨h1, _, r2, fun y hy => ?_, fun y => ?_⟩, g3⟩
  · unfold upF at hy
    split at hy
    · exact absurd rfl hy
    · exact h2 y hy
  · unfold upF
    by_cases e : y = x
    · rw [if_pos e, e]
      exact Or.inl ⟨rfl, has_del_same, atKey_del_same _⟩
    · rw [if_neg e]
      rcases h3 y with ⟨e1, e2, e3⟩ | ⟨e1, e2, u, e3, hu⟩
      · exact Or.inl ⟨e1, by rw [has_del_other (by simpa using e)]; exact e2, by rw [atKey_del_other (by simpa using e)]; exact e3⟩
      · exact Or.inr ⟨e1, by rw [has_del_other (by simpa using e)]; exact e2, u, by rw [atKey_del_other (by simpa using e)]; exact e3, hkeep u _ hu⟩
end Go.Proofs.YtnagfoclbdlenaaGreatDoor

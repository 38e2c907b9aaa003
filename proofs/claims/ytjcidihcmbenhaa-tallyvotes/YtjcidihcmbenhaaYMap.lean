/- Maps from numbers to numbers; slices of marks. -/
import Derived.Test.YtjcidihcmbenhaaKCf
import Derived.Test.YtjcidihcmbenhaaYPure
import Derived.Maps.OwnSet
import Derived.Maps.Own
namespace Go.Proofs.Ytjcidihcmbenhaa
open Go.RowKit Go.Maps

theorem keyed : Keyed Try.prog 3 := int_keyed Try.underlying3
def wf64 (x : Int) : Prop := (Lit.int .i64 x).wf = true
theorem wf_range {x : Int} (h : -9223372036854775808 ≤ x ∧ x ≤ 9223372036854775807) : wf64 x := by
  unfold wf64; exact WalkArith.wf_i64 (by omega)
/-- block b is a map; f tells what it has. -/
def Mp (e : TypeId) (w : World) (b : Nat) (f : Int → Option Int) (c : Nat) : Prop :=
  ∃ D : DataW Unit, w.ownsMap Try.prog 3 (plainElem Try.prog e) b c D ∧ (∀ x : Int, Maps.has D (.int .i64 x) = (f x).isSome) ∧ ∀ x : Int, D.atKey (.int .i64 x) (.lit (.int .i64 0)) = .lit (.int .i64 ((f x).getD 0))
theorem Mp.lt {e : TypeId} {w : World} {b : Nat} {f : Int → Option Int} {c : Nat} (h : Mp e w b f c) : b < w.heap.size := by
  obtain ⟨D, ho, _⟩ := h; exact ho.lt
theorem Mp.isMap {e : TypeId} {w : World} {b : Nat} {f : Int → Option Int} {c : Nat} (h : Mp e w b f c) : ∃ es cl, w.heap[b]? = some (.map es cl) := by
  obtain ⟨D, ⟨es, cl, e1, _⟩, _⟩ := h; exact ⟨es, cl, e1⟩
theorem Mp.kept {e : TypeId} {w w' : World} {b : Nat} {f : Int → Option Int} {c : Nat} (h : Mp e w b f c) (hb : w'.heap[b]? = w.heap[b]?) : Mp e w' b f c := by
  obtain ⟨D, ⟨es, cl, e1, e2⟩, r⟩ := h
  exact ⟨D, ⟨es, cl, hb.trans e1, e2⟩, r⟩
theorem Mp.below {e : TypeId} {w w' : World} {b : Nat} {f : Int → Option Int} {c : Nat} (h : Mp e w b f c) (hb : Below w.heap.size w w') : Mp e w' b f c := h.kept (hb.block b h.lt)
theorem Mp.made (e : TypeId) (w : World) : Mp e (w.alloc (.map #[] 0)) w.heap.size (fun _ => none) 0 := ⟨.map [], World.ownsMap_made w Try.prog 3 _, fun _ => rfl, fun _ => rfl⟩
theorem Mp.look {t e : TypeId} (ht : Try.prog.underlying t = some (.map 3 e)) (he : Try.prog.underlying e = some (.int .i64)) (hz : ∀ w, (zeroValue e).run Try.prog w = .ok (.int .i64 0) w)
    {w : World} {b : Nat} {f : Int → Option Int} {c : Nat} (h : Mp e w b f c) {x : Int} (hx : wf64 x) : (Instr.lookup t (.map (some b)) (.int .i64 x) false).run Try.prog w = .ok (.int .i64 ((f x).getD 0)) w := by
  obtain ⟨D, ho, _, h3⟩ := h
  obtain ⟨v, h1, h2, _⟩ := ho.lookup_int keyed ht he (hz w) (keyOf_int_mk Try.underlying3 hx)
  rw [h3 x] at h2
  simp only [DataW.lit.injEq, Lit.int.injEq, true_and] at h2
  rw [h2]; exact h1
theorem Mp.look_ok {t e : TypeId} (ht : Try.prog.underlying t = some (.map 3 e)) (he : Try.prog.underlying e = some (.int .i64)) (hz : ∀ w, (zeroValue e).run Try.prog w = .ok (.int .i64 0) w)
    {w : World} {b : Nat} {f : Int → Option Int} {c : Nat} (h : Mp e w b f c) {x : Int} (hx : wf64 x) : (Instr.lookup t (.map (some b)) (.int .i64 x) true).run Try.prog w = .ok (.tuple #[.int .i64 ((f x).getD 0), .bool (f x).isSome]) w := by
  obtain ⟨D, ho, h2, h3⟩ := h
  obtain ⟨v, ps, r1, r2⟩ := ho.look_ok keyed ht (hz w) (plainElem_int he (by decide)) (keyOf_int_mk Try.underlying3 hx)
  rw [h3 x] at r2
  obtain ⟨d, rfl, r3, _⟩ := plainElem_int_inv he r2
  have r4 := (Prod.mk.inj r3).1
  simp only [DataW.lit.injEq, Lit.int.injEq, true_and] at r4
  rw [r1, h2, r4]
def upd (f : Int → Option Int) (x v : Int) (y : Int) : Option Int := if y = x then some v else f y
theorem Mp.store {t e : TypeId} (ht : Try.prog.underlying t = some (.map 3 e)) (he : Try.prog.underlying e = some (.int .i64))
    {w : World} {b : Nat} {f : Int → Option Int} {c : Nat} (h : Mp e w b f c) {x v : Int} (hx : wf64 x) (hv : wf64 v) (hc : c < 1000000000) :
    ∃ w', (Instr.mapUpdate t (.map (some b)) (.int .i64 x) (.int .i64 v)).run Try.prog w = .ok () w' ∧ Mp e w' b (upd f x v) (c + 1) ∧ w.grownBy w' (some b) := by
  obtain ⟨D, ho, h2, h3⟩ := h
  obtain ⟨w', r1, r2, r3⟩ := ho.update keyed ht (by unfold maxLen; omega) (keyOf_int_mk Try.underlying3 hx) (plainElem_int he hv)
  have hm := ho.isMap
  refine ⟨w', r1, ⟨_, r2, fun y => ?_, fun y => ?_⟩, r3⟩
  · unfold upd
    by_cases e : y = x
    · rw [if_pos e, e]; exact has_put_same hm (by simp [WideAt.IsKeyLit]) _
    · rw [if_neg e, has_put_other (by simpa using e)]; exact h2 y
  · unfold upd
    by_cases e : y = x
    · rw [if_pos e, e]; exact atKey_put_same hm (by simp [WideAt.IsKeyLit]) _ _
    · rw [if_neg e, atKey_put_other (by simpa using e)]; exact h3 y
theorem zeroI (w : World) : (zeroValue 3).run Try.prog w = .ok (.int .i64 0) w := by kernel_rfl
theorem zeroV (w : World) : (zeroValue 70).run Try.prog w = .ok (.int .i64 0) w := by kernel_rfl

/-! ### slices of marks -/
def MkR (w : World) (ao : Option Addr) (ms : List (Int × Int)) : Prop :=
  ∀ i, i < ms.length → ∃ g off, ao = some ⟨g, off, none⟩ ∧ w.cell? ⟨g, off + i * 2, none⟩ = some (.int .i64 (ms.getD i (0, 0)).1) ∧ w.cell? ⟨g, off + i * 2 + 1, none⟩ = some (.int .i64 (ms.getD i (0, 0)).2)
theorem MkR.below {w w' : World} {ao : Option Addr} {ms : List (Int × Int)} (h : MkR w ao ms) (hb : Below w.heap.size w w') : MkR w' ao ms := fun i hi => by
  obtain ⟨g, off, e, h1, h2⟩ := h i hi
  exact ⟨g, off, e, by rw [hb.cell (blk_lt h1)]; exact h1, by rw [hb.cell (blk_lt h2)]; exact h2⟩
def Wfs (ms : List (Int × Int)) : Prop := ∀ m ∈ ms, wf64 m.1 ∧ wf64 m.2
theorem mk_mem {ms : List (Int × Int)} {k : Nat} (h : k < ms.length) : ms.getD k (0, 0) ∈ ms := by
  rw [List.getD_eq_getElem?_getD, List.getElem?_eq_getElem h]; exact List.getElem_mem h
theorem lastOf_wf {ms : List (Int × Int)} (h : Wfs ms) (id : Int) : wf64 (lastOf ms id) := by
  by_cases e : lastOf ms id = 0
  · rw [e]; exact wf_range (by omega)
  · obtain ⟨m, hm, e'⟩ := lastOf_mem ms id e
    rw [← e']; exact (h m hm).2

/-! ### what is known of the members -/
def cmOf (M : List Int) (ms : List (Int × Int)) (id : Int) : Option Int := if M.contains id = true then some (lastOf ms id) else none
theorem cm_none (ms : List (Int × Int)) : cmOf [] ms = fun _ => none := by funext y; simp [cmOf]
theorem cm_more {M : List Int} {k : Nat} (h : k < M.length) : upd (cmOf (M.take k) []) (M.getD k 0) 0 = cmOf (M.take (k + 1)) [] := by
  funext y
  unfold upd cmOf
  rw [take_succ M 0 k h]
  by_cases e : y = M.getD k 0
  · rw [if_pos e, if_pos (by rw [List.contains_iff_mem]; simp [e])]; rfl
  · rw [if_neg e]
    congr 1
    rw [List.contains_iff_mem, List.contains_iff_mem, List.mem_append, List.mem_singleton]
    exact propext ⟨Or.inl, fun h => h.elim id (fun e' => absurd e' e)⟩
theorem cm_mark {M : List Int} {ms : List (Int × Int)} {k : Nat} (h : k < ms.length) (hm : M.contains (ms.getD k (0, 0)).1 = true) : upd (cmOf M (ms.take k)) (ms.getD k (0, 0)).1 (ms.getD k (0, 0)).2 = cmOf M (ms.take (k + 1)) := by
  funext y
  unfold upd cmOf
  rw [take_succ ms (0, 0) k h, lastOf_snoc]
  by_cases e : y = (ms.getD k (0, 0)).1
  · rw [if_pos e, if_pos (by rw [e]; exact hm), if_pos e.symm]
  · rw [if_neg e, if_neg (c := (ms.getD k (0, 0)).1 = y) (fun h => e h.symm)]
theorem cm_skip {M : List Int} {ms : List (Int × Int)} {k : Nat} (h : k < ms.length) (hm : M.contains (ms.getD k (0, 0)).1 = false) : cmOf M (ms.take k) = cmOf M (ms.take (k + 1)) := by
  funext y
  unfold cmOf
  rw [take_succ ms (0, 0) k h, lastOf_snoc]
  by_cases e : M.contains y = true
  · rw [if_pos e, if_pos e, if_neg]
    intro e'
    rw [e', e] at hm; cases hm
  · rw [if_neg e, if_neg e]
theorem cm_some (M : List Int) (ms : List (Int × Int)) (x : Int) : (cmOf M ms x).isSome = M.contains x := by
  unfold cmOf
  by_cases e : M.contains x = true
  · rw [if_pos e, e]; rfl
  · rw [if_neg e]; simp at e ⊢; exact e
end Go.Proofs.Ytjcidihcmbenhaa

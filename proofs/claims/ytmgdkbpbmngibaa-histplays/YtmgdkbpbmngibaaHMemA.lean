/- HistMembers: what it stands on. -/
import Derived.Test.YtmgdkbpbmngibaaHGood
import Derived.Test.YtmgdkbpbmngibaaHRefE
import Derived.Test.YtmgdkbpbmngibaaHKnown
namespace Go.Proofs.Ytmgdkbpbmngibaa
open Go.RowKit Go.Maps

/-- a configuration's lists do not lie in D. -/
def Off (D : Nat → Prop) (v : Value) (o n : List Int) : Prop := ∀ ao no co an nn cn, v = .agg #[.slice ao no co, .slice an nn cn] → (o ≠ [] → ∀ a, ao = some a → ¬ D a.block) ∧ (n ≠ [] → ∀ a, an = some a → ¬ D a.block)
theorem Hi.off {base : Nat} {D : Nat → Prop} {v : Value} (h : Hi base v) (hd : ∀ j, D j → j < base) (o n : List Int) : Off D v o n := fun ao no co an nn cn e =>
  ⟨fun _ a ha x => by have := (h _ _ _ _ _ _ e).1 a ha; have := hd _ x; omega, fun _ a ha x => by have := (h _ _ _ _ _ _ e).2 a ha; have := hd _ x; omega⟩
theorem Fr.kp {D : Nat → Prop} {w w' : World} {ao : Option Addr} {xs : List Int} (h : Fr w ao xs) (hk : Kp D w w') (hd : xs ≠ [] → ∀ a, ao = some a → ¬ D a.block) : Fr w' ao xs := by
  refine ⟨fun i hi => ?_, h.2⟩
  obtain ⟨a, e, hc⟩ := h.1 i hi
  exact ⟨a, e, hk.cell hc (by rw [add_block]; exact hd (fun x => by rw [x] at hi; simp at hi) a e)⟩
theorem Cf.kp {D : Nat → Prop} {w w' : World} {v : Value} {o n : List Int} (h : Cf w v o n) (hk : Kp D w w') (hd : Off D v o n) : Cf w' v o n := by
  obtain ⟨ao, no, co, an, nn, cn, e1, e2, e3, e4, e5, e6, e7⟩ := h
  exact ⟨ao, no, co, an, nn, cn, e1, e2, e3, e4.kp hk (hd _ _ _ _ _ _ e1).1, e5, e6, e7.kp hk (hd _ _ _ _ _ _ e1).2⟩
theorem Fr.lt {w : World} {ao : Option Addr} {xs : List Int} (h : Fr w ao xs) (hx : xs ≠ []) : ∀ a, ao = some a → a.block < w.heap.size := fun a ha => by
  obtain ⟨a', e, hc⟩ := h.1 0 (List.length_pos_iff.2 hx)
  rw [ha] at e; cases e
  have := blk_lt hc
  rwa [add_block] at this
theorem Off.news {D : Nat → Prop} {w w1 w2 : World} {v : Value} {o n : List Int} (h : Off D v o n) (hc : Cf w v o n) (hw : w.heap.size ≤ w1.heap.size) : Off (News D w1 w2) v o n := by
  obtain ⟨ao, no, co, an, nn, cn, e1, e2, e3, e4, e5, e6, e7⟩ := hc
  intro ao' no' co' an' nn' cn' e
  obtain ⟨k1, k2⟩ := h _ _ _ _ _ _ e
  rw [e1] at e
  cases e
  exact ⟨fun hx a ha x => x.elim (k1 hx a ha) (fun y => by have := e4.lt hx a ha; omega), fun hx a ha x => x.elim (k2 hx a ha) (fun y => by have := e7.lt hx a ha; omega)⟩
/-- a row of one entry, its members elsewhere. -/
theorem es_one (w : World) (e : En) (mo : Option Addr) (mc : Nat) {F : Nat → Prop} (hm : InF F w mo e.ms) (hl : e.ms.length ≤ 1000000) (hF : F w.heap.size) : EsR F (w.alloc (.cells #[.int .i64 e.kind, .int .i64 e.client, .int .i64 e.seq, .string e.text, .slice mo e.ms.length mc, .int .i64 e.dest] 60)) (some ⟨w.heap.size, 0, none⟩) [e] := fun i e' hi => by
  cases i with
  | succ i => simp at hi
  | zero =>
    simp only [List.getElem?_cons_zero, Option.some.injEq] at hi
    subst hi
    refine ⟨w.heap.size, 0, mo, mc, rfl, hF, fun j u hj => ?_, hm.below ((Below.refl _ w).alloc (Nat.le_refl _) _), hl⟩
    rw [cell_of_block (box_at w _), ← Array.getElem?_toList, show 0 + 0 * 6 + j = j by omega]
    exact hj
/-- the terms of a log of term 1 alone. -/
theorem ones_app (rs : List Rw) (e : En) (h : ∀ r ∈ rs, r.1 = 1) (hl : rs.length < 64) : appNo 0 rs 1 1 = 0 ∧ appN 0 rs 1 1 = (rs.length : Int) + 1 ∧ appRows 0 rs 1 [e] = rs ++ [(1, e)] := by
  have ht : termOf 0 rs (0 + (rs.length : Int)) ≤ 1 := by
    unfold termOf
    cases hr : rowAt 0 rs (0 + (rs.length : Int)) with
    | none => simp
    | some r =>
      unfold rowAt at hr
      split at hr
      · simp only; have := h r (List.mem_of_getElem? hr); omega
      · cases hr
  have h0 : appNo 0 rs 1 1 = 0 := by
    unfold appNo
    rw [if_pos ⟨by decide, ht⟩, if_pos (by omega)]
  refine ⟨h0, ?_, ?_⟩
  · unfold appN; rw [if_pos h0]; omega
  · unfold appRows
    rw [if_pos (show appNo 0 rs 1 [e].length = 0 from h0)]
    rfl
theorem cfOf_snoc (c : List Int × List Int) (es : List En) (e : En) : cfOf c (es ++ [e]) = cfStep (cfOf c es) e := by
  unfold cfOf
  rw [List.foldl_append]; rfl
end Go.Proofs.Ytmgdkbpbmngibaa

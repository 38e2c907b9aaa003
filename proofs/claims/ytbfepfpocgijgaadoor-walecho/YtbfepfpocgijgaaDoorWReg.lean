/- Steps of a region that draws its order: append onto a row of rows; marks on a constant's bytes; facts that outlast a step. -/
import Derived.Test.YtbfepfpocgijgaaDoorWCrash
import Derived.Test.YtbfepfpocgijgaaDoorRFrame
import Derived.Deep.RegionHeldLaw
namespace Go.Proofs.YtbfepfpocgijgaaDoor
open Go.RowKit

/-- an operation that is an append of rows, that is wanted. -/
theorem step_if {w : World} {ops : Array Oper} {o : Oper} {a : Act} {K : Act → World → Prop} {Q : Exit → Act → World → Prop} {E : Prop} (s x : Operand)
    (_ho : o.op = .call { callee := .builtin .append, args := #[s, x], argTypes := #[31, 31] }) (hw : Region.wanted o (yielded ops a.tmps) = true) (h : Oper.wp Tryd.prog o a w K Q) :
    if Region.wanted o (yielded ops a.tmps) = true then Oper.wp Tryd.prog o a w K Q else E := by
  rw [if_pos hw]; exact h

theorem step_rows {w : World} {o : Oper} {a : Act} {K : Act → World → Prop} {Q : Exit → Act → World → Prop} (s x : Operand)
    (ho : o.op = .call { callee := .builtin .append, args := #[s, x], argTypes := #[31, 31] }) (base : Nat) (v : Value) (vs : List Value) (nx : Nat) (hs : a.eval s = v) (hown : w.ownsRow base 32 1 v nx vs)
    (ao : Option Addr) (m c : Nat) (us : List Value) (hx : a.eval x = .slice ao m c) (hm : us.length = m) (hus : ∀ i u, us[i]? = some u → ∃ ad, ao = some ad ∧ w.cell? (ad.add i) = some u) (hone : ∀ u ∈ us, u.oneCell' = true) (hc : ao = none → c = 0) (hl : nx + m ≤ 1000000000) (hb : base ≤ w.heap.size)
    (h : ∀ ao' cap' w', w'.ownsRow base 32 1 (.slice ao' (nx + m) cap') (nx + m) (vs ++ us) → Kept base (fun k => v.ownBlock = some k) w w' → ((Value.slice ao' (nx + m) cap').ownBlock = v.ownBlock ∨ (Value.slice ao' (nx + m) cap').ownBlock = some w.heap.size) → K (a.put o.dst (.slice ao' (nx + m) cap')) w') :
    Oper.wp Tryd.prog o a w K Q := by
  obtain ⟨i0, hi, hz0, hz1, hz2⟩ := info_parts Tryd.info27
  cases ao with
  | none =>
    obtain rfl : us = [] := by
      cases us with
      | nil => rfl
      | cons u us => obtain ⟨ad, e, _⟩ := hus 0 u rfl; cases e
    obtain rfl := hc rfl
    obtain rfl : m = 0 := hm.symm
    obtain ⟨aov, capv, rfl⟩ : ∃ aov capv, v = .slice aov nx capv := by
      rcases hown.2 with ⟨rfl, h0⟩ | ⟨gb, cap2, cur, rfl, _⟩
      · exact ⟨none, 0, by rw [h0]⟩
      · exact ⟨_, cap2, rfl⟩
    have hrun := run_append_owned_none (P := Tryd.prog) (w := w) base 31 o.type 32 i0 1 Tryd.underlying31 hi _ _ _ hown
    unfold Oper.wp
    simp [execOp, ho, resolve, invoke, builtin, hs, hx, hrun, Result.andThen]
    exact h aov capv w (by simpa using hown) (Kept.refl _ _ _) (Or.inl rfl)
  | some ad =>
    obtain ⟨v', w', hr, own', g', _, hat⟩ := run_append_own_at (P := Tryd.prog) w base 31 o.type 32 i0 (.slice none 0 0) 1 24 Tryd.underlying31 hi hz0 hz1 hz2 rfl (by decide) v nx vs hown ad m c us (by simp [hm]) (fun j u hj => by obtain ⟨ad', e, hcell⟩ := hus j u hj; cases e; exact hcell) hone (by unfold maxLen; omega) (by omega) hb
    obtain ⟨ao', cap', rfl⟩ : ∃ ao' cap', v' = .slice ao' (nx + m) cap' := by
      rcases own'.2 with ⟨rfl, h0⟩ | ⟨gb, cap2, cur, rfl, _⟩
      · exact ⟨none, 0, by rw [h0]⟩
      · exact ⟨_, cap2, rfl⟩
    have hkept : Kept base (fun k => v.ownBlock = some k) w w' := ⟨(Below.refl _ _).grown g' hb (fun k hk => (hown.lt k hk).1), fun k hk hn => by
      obtain ⟨_, _, _, _, hold⟩ := g'
      exact hold k hk (fun e => hn e.symm)⟩
    unfold Oper.wp execOp
    simp only [ho, resolve, invoke, builtin, Sem.run_bind, Sem.run_pure, Result.andThen_ok, List.map_toArray, List.map_cons, List.map_nil, hs, hx, hr]
    exact h ao' cap' w' own' hkept hat

section
variable (w : World) (b : Addr) (n : Nat)
theorem frz_size : (w.freeze b n).heap.size = w.heap.size := by
  unfold World.freeze; split
  · rfl
  · simp
theorem frz_other {k : Nat} (h : k ≠ b.block) : (w.freeze b n).heap[k]? = w.heap[k]? := by
  unfold World.freeze; split
  · rfl
  · simp only [Array.getElem?_modify]; rw [if_neg (fun e => h e.symm)]
theorem frz_cell (a : Addr) : (w.freeze b n).cell? a = w.cell? a := by
  by_cases h : a.block = b.block
  · unfold World.freeze; split
    · rfl
    · simp only [World.cell?, Array.getElem?_modify, h, if_true]
      cases w.heap[b.block]? with
      | none => rfl
      | some o => cases o <;> rfl
  · exact World.cell?_of_block (frz_other w b n h)
theorem frz_keeps : (w.freeze b n).os = w.os ∧ (w.freeze b n).tape = w.tape ∧ (w.freeze b n).output = w.output := by
  unfold World.freeze; split <;> exact ⟨rfl, rfl, rfl⟩
end
theorem conv_mark (w : World) (g n c m : Nat) (h : w.shape? g = some (5, m)) : (convert 32 32 (.slice (some ⟨g, 0, none⟩) n c)).run Tryd.prog w = .ok (.slice (some ⟨g, 0, none⟩) n c) (w.freeze ⟨g, m, none⟩ 1) := by
  simp [convert, run_underlying Tryd.underlying32, run_underlying Tryd.underlying5, markStringish, h]
theorem shape_new (w : World) (C : Array Value) (t : TypeId) (n : Nat) (h : w.heap.size = n) : (w.alloc (.cells C t)).shape? n = some (t, C.size) := by
  unfold World.shape?; rw [← h, heap_alloc_new w (.cells C t)]
theorem shape_lt {w : World} {n : Nat} {x : TypeId × Nat} (h : w.shape? n = some x) : n < w.heap.size := by
  by_cases hn : n < w.heap.size
  · exact hn
  · unfold World.shape? at h; rw [Array.getElem?_eq_none (by omega)] at h; cases h
theorem shape_block {w w' : World} {n : Nat} {x : TypeId × Nat} (h : w.shape? n = some x) (hb : w'.heap[n]? = w.heap[n]?) : w'.shape? n = some x := by
  unfold World.shape? at h ⊢; rw [hb]; exact h
theorem shape_old (w : World) (o : Obj) (n : Nat) (x : TypeId × Nat) (h : w.shape? n = some x) : (w.alloc o).shape? n = some x := shape_block h (Below.heap_alloc w o n (shape_lt h))
theorem shape_mark {w : World} {b : Addr} {k n : Nat} {x : TypeId × Nat} (h : w.shape? n = some x) : (w.freeze b k).shape? n = some x := by
  by_cases hb : n = b.block
  · rw [← h]
    unfold World.freeze; split
    · rfl
    · subst hb
      simp only [World.shape?, Array.getElem?_modify, if_true]
      cases w.heap[b.block]? with
      | none => rfl
      | some o => cases o <;> rfl
  · exact shape_block h (frz_other w b k hb)
theorem bel_alloc {B : Nat} {w W : World} {o : Obj} (h : Below B w W) (hB : B ≤ w.heap.size) : Below B w (W.alloc o) := h.alloc (Nat.le_trans hB h.size) o
theorem bel_frz {B g k : Nat} {w W : World} (h : Below B w W) (hg : B ≤ g) : Below B w (W.freeze ⟨g, k, none⟩ 1) :=
  ⟨(frz_keeps W _ _).1.trans h.os, (frz_keeps W _ _).2.1.trans h.tape, (frz_keeps W _ _).2.2.trans h.output, by rw [frz_size]; exact h.size, fun j hj => (frz_other W _ _ (by simp only; omega)).trans (h.block j hj)⟩
theorem cell_new {w : World} {cs : Array Value} {t : TypeId} {fr : Nat × Nat} {n i : Nat} {u : Value} (h : w.heap.size = n) (hu : cs[i]? = some u) : (w.alloc (.cells cs t fr)).cell? ⟨n, i, none⟩ = some u := by
  rw [← h, cell_of_block (heap_alloc_new w _)]; exact hu
theorem cell_old {w : World} {o : Obj} {a : Addr} {u : Value} (h : w.cell? a = some u) : (w.alloc o).cell? a = some u := by
  rw [((Below.refl w.heap.size w).alloc (Nat.le_refl _) o).cell (blk_lt h)]; exact h
theorem cell_mark {w : World} {b a : Addr} {n : Nat} {u : Value} (h : w.cell? a = some u) : (w.freeze b n).cell? a = some u := by rw [frz_cell]; exact h
theorem heap_new {w : World} {o : Obj} {n : Nat} (h : w.heap.size = n) : (w.alloc o).heap[n]? = some o := by rw [← h]; exact heap_alloc_new w o
theorem heap_old {w : World} {o o' : Obj} {n : Nat} (h : w.heap[n]? = some o) : (w.alloc o').heap[n]? = some o := (Below.heap_alloc w o' n (blk_lt' h)).trans h
theorem heap_mark {w : World} {o : Obj} {n g k : Nat} (h : w.heap[n]? = some o) (hn : n ≠ g) : (w.freeze ⟨g, k, none⟩ 1).heap[n]? = some o := (frz_other w _ _ hn).trans h
/-- an empty row of rows. -/
theorem rows_nil {base : Nat} {w : World} {g : Nat} (h : w.heap[g]? = some (.cells #[] 32 (0, 0))) (hb : base ≤ g) : w.ownsRow base 32 1 (.slice (some ⟨g, 0, none⟩) 0 0) 0 [] :=
  ⟨rfl, Or.inr ⟨g, 0, #[], rfl, hb, h, Nat.le_refl _, by decide, rfl, rfl⟩⟩
/-- a row that grows upon an empty one takes no cell away. -/
theorem nil_grown {b' : Nat} {w w' : World} {g : Nat} (h : w.heap[g]? = some (.cells #[] 32 (0, 0))) (hk : Kept b' (fun k => (Value.slice (some ⟨g, 0, none⟩) 0 0).ownBlock = some k) w w') : ∀ a u, w.cell? a = some u → w'.cell? a = some u := by
  intro a u hc
  have hlt := blk_lt hc
  rw [World.cell?_of_block (w := w) (hk.2 a.block hlt (fun e => ?_))]
  · exact hc
  · simp only [Value.ownBlock, Option.some.injEq] at e
    rw [World.cell?, ← e, h] at hc
    simp at hc
theorem RowsArg.keeps {w w' : World} {ao : Option Addr} {xs : List (List Nat)} (h : RowsArg w ao xs) (hk : ∀ a u, w.cell? a = some u → w'.cell? a = some u) : RowsArg w' ao xs := by
  intro i hi
  obtain ⟨a, r, cap, e, hc, hby, h1, h2⟩ := h i hi
  exact ⟨a, r, cap, e, hk _ _ hc, hby.kept (fun a i u hc _ => hk _ _ hc), h1, h2⟩
theorem own_mark {base g k : Nat} {w : World} {v : Value} {m : Nat} {vs : List Value} (ho : w.ownsRow base 32 1 v m vs) (x : Nat) (hs : w.shape? g = some (5, x)) : (w.freeze ⟨g, k, none⟩ 1).ownsRow base 32 1 v m vs := by
  refine own_kept ho fun j hj => frz_other w _ _ ?_
  intro e
  simp only at e
  subst e
  obtain ⟨_, cur, fr, hc⟩ := own_tag ho j hj
  unfold World.shape? at hs
  rw [hc] at hs
  simp at hs
theorem alloc_size (w : World) (o : Obj) : (w.alloc o).heap.size = w.heap.size + 1 := by simp
theorem bel_call {w W W' : World} (h : Below w.heap.size w W) (hb : Below W.heap.size W W') : Below w.heap.size w W' := h.trans (hb.mono h.size)
theorem bel_kept {B b : Nat} {f : Nat → Prop} {w W W' : World} (h : Below B w W) (hk : Kept b f W W') (hf : ∀ k, f k → B ≤ k) (hB : B ≤ w.heap.size) : Below B w W' := h.trans (below_of_kept hk hf (Nat.le_trans hB h.size))
theorem below_keeps {w w' : World} (hb : Below w.heap.size w w') : ∀ a u, w.cell? a = some u → w'.cell? a = some u := fun a u h => by rw [hb.cell (blk_lt h)]; exact h
theorem below_heap {w w' : World} (hb : Below w.heap.size w w') : ∀ (n : Nat) (o : Obj), w.heap[n]? = some o → w'.heap[n]? = some o := fun n _o h => (hb.block n (blk_lt' h)).trans h
theorem below_shape {w w' : World} (hb : Below w.heap.size w w') : ∀ n x, w.shape? n = some x → w'.shape? n = some x := fun n _x h => shape_block h (hb.block n (shape_lt h))
theorem shape_grown {b' : Nat} {w w' : World} {g : Nat} (h : w.heap[g]? = some (.cells #[] 32 (0, 0))) (hk : Kept b' (fun k => (Value.slice (some ⟨g, 0, none⟩) 0 0).ownBlock = some k) w w') : ∀ n, w.shape? n = some (5, 4) → w'.shape? n = some (5, 4) := by
  intro n hn
  refine shape_block hn (hk.2 n (shape_lt hn) (fun e => ?_))
  simp only [Value.ownBlock, Option.some.injEq] at e
  subst e
  unfold World.shape? at hn
  rw [h] at hn
  simp at hn
/-- what grew upon an empty row lies in no block that has cells. -/
theorem nil_apart {w : World} {g : Nat} {v : Value} (h : w.heap[g]? = some (.cells #[] 32 (0, 0))) (hat : v.ownBlock = (Value.slice (some ⟨g, 0, none⟩) 0 0).ownBlock ∨ v.ownBlock = some w.heap.size) : ∀ a u, w.cell? a = some u → ¬ v.ownBlock = some a.block := by
  intro a u hc e
  have hlt := blk_lt hc
  rcases hat with h' | h'
  · rw [h'] at e
    simp only [Value.ownBlock, Option.some.injEq] at e
    rw [World.cell?, ← e, h] at hc
    simp at hc
  · rw [h'] at e
    simp only [Option.some.injEq] at e
    omega
theorem kept_cell {b : Nat} {f : Nat → Prop} {w w' : World} {a : Addr} {u : Value} (hk : Kept b f w w') (h : w.cell? a = some u) (hn : ¬ f a.block) : w'.cell? a = some u := by
  rw [World.cell?_of_block (w := w) (hk.2 a.block (blk_lt h) hn)]; exact h
theorem tag_ne {base : Nat} {w : World} {v : Value} {m : Nat} {vs : List Value} {g x : Nat} (ho : w.ownsRow base 32 1 v m vs) (hs : w.shape? g = some (5, x)) : ¬ v.ownBlock = some g := by
  intro e
  obtain ⟨_, cur, fr, hc⟩ := own_tag ho g e
  unfold World.shape? at hs
  rw [hc] at hs
  simp at hs
theorem more_bytes {w : World} {g : Nat} (h0 : w.cell? ⟨g, 0, none⟩ = some (.int .u8 109)) (h1 : w.cell? ⟨g, 1, none⟩ = some (.int .u8 111)) (h2 : w.cell? ⟨g, 2, none⟩ = some (.int .u8 114)) (h3 : w.cell? ⟨g, 3, none⟩ = some (.int .u8 101)) : Bytes w (some ⟨g, 0, none⟩) [109, 111, 114, 101] := by
  refine ⟨by decide, fun i hi => ⟨_, rfl, ?_⟩⟩
  rw [Addr.add_lit, Nat.zero_add]
  match i, hi with
  | 0, _ => exact h0
  | 1, _ => exact h1
  | 2, _ => exact h2
  | 3, _ => exact h3
theorem step_row1 {w : World} {o : Oper} {a : Act} {K : Act → World → Prop} {Q : Exit → Act → World → Prop} (s x y : Operand)
    (ho : o.op = .call { callee := .builtin .append, args := #[s, x], argTypes := #[31, 31] }) (base : Nat) (v : Value) (vs : List Value) (nx : Nat) (hs : a.eval s = v) (hown : w.ownsRow base 32 1 v nx vs)
    (gx gd : Nat) (hx : a.eval x = .slice (some ⟨gx, 0, none⟩) 1 1) (_hy : a.eval y = .slice (some ⟨gd, 0, none⟩) 4 4) (hc : w.cell? ⟨gx, 0, none⟩ = some (.slice (some ⟨gd, 0, none⟩) 4 4)) (hl : nx + 1 ≤ 1000000000) (hb : base ≤ w.heap.size)
    (h : ∀ ao' cap' w', w'.ownsRow base 32 1 (.slice ao' (nx + 1) cap') (nx + 1) (vs ++ [.slice (some ⟨gd, 0, none⟩) 4 4]) → Kept base (fun k => v.ownBlock = some k) w w' → ((Value.slice ao' (nx + 1) cap').ownBlock = v.ownBlock ∨ (Value.slice ao' (nx + 1) cap').ownBlock = some w.heap.size) → K (a.put o.dst (.slice ao' (nx + 1) cap')) w') :
    Oper.wp Tryd.prog o a w K Q := by
  refine step_rows s x ho base v vs nx hs hown (some ⟨gx, 0, none⟩) 1 1 [.slice (some ⟨gd, 0, none⟩) 4 4] hx rfl (fun i u hi => ⟨_, rfl, ?_⟩) (one_slice _ _ _) (fun e => by cases e) hl hb h
  match i, hi with
  | 0, hi => simp only [List.getElem?_cons_zero, Option.some.injEq] at hi; subst hi; rw [Addr.add_lit, Nat.zero_add]; exact hc
theorem take_get {vs : List Value} {K i : Nat} {u : Value} (h : (vs.take K)[i]? = some u) : vs[i]? = some u := by
  by_cases hi : i < K
  · rw [List.getElem?_take_of_lt hi] at h; exact h
  · rw [List.getElem?_take_eq_none (by omega)] at h; cases h
end Go.Proofs.YtbfepfpocgijgaaDoor

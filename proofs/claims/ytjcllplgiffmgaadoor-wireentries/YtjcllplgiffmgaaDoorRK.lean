/- Appends onto a row of the call's own, and which blocks they leave alone: laws for lists of operations and for regions that draw. -/
import Derived.Test.YtjcllplgiffmgaaDoorRNum
import Derived.Test.YtjcllplgiffmgaaDoorWriterE
import Derived.Maps.AppendAt
import Derived.Deep.RegionHeldLaw
namespace Go.Proofs.YtjcllplgiffmgaaDoor
open Go.RowKit

/-- all but the row's block is kept; the new row lies in the old one's block or in a new one. -/
def KO (base : Nat) (v v' : Value) (w w' : World) : Prop := Kept base (fun k => v.ownBlock = some k) w w' ∧ ∀ k, v'.ownBlock = some k → v.ownBlock = some k ∨ w.heap.size ≤ k
theorem KO.refl (base : Nat) (v : Value) (w : World) : KO base v v w w := ⟨Kept.refl _ _ _, fun _ h => Or.inl h⟩
theorem KO.trans {base : Nat} {v v1 v2 : Value} {w w1 w2 : World} (h : KO base v v1 w w1) (h' : KO base v1 v2 w1 w2) : KO base v v2 w w2 := by
  refine ⟨h.1.trans h'.1 (fun j hj e => ?_), fun k hk => ?_⟩
  · rcases h.2 j e with h1 | h1
    · exact h1
    · omega
  · rcases h'.2 k hk with h1 | h1
    · exact h.2 k h1
    · exact Or.inr (Nat.le_trans h.1.size h1)
theorem KO.fresh {base : Nat} {v v' : Value} {w w1 w' : World} (h : KO base v v' w1 w') (hb : Below w.heap.size w w1) (hs : base ≤ w.heap.size) : KO base v v' w w' :=
  ⟨(Kept.of_below hb hs).trans h.1 (fun _ _ e => e), fun k hk => (h.2 k hk).imp id (fun h1 => Nat.le_trans hb.size h1)⟩
theorem KO.below {base : Nat} {v v' : Value} {w w' : World} (h : KO base v v' w w') : Below base w w' := h.1.1
theorem KO.size {base : Nat} {v v' : Value} {w w' : World} (h : KO base v v' w w') : w.heap.size ≤ w'.heap.size := h.1.size
/-- a block that is not the row's stays. -/
theorem KO.block {base : Nat} {v v' : Value} {w w' : World} (h : KO base v v' w w') {k : Nat} (hk : k < w.heap.size) (hn : v.ownBlock ≠ some k) : w'.heap[k]? = w.heap[k]? := h.1.2 k hk hn
theorem KO.only {base : Nat} {v v' : Value} {w w' : World} {bs : List Nat} (h : KO base v v' w w') (ho : Own base w v bs) : Only base [5] w w' := by
  refine ⟨h.below, fun k hk hn => h.block hk (fun e => ?_)⟩
  obtain ⟨_, cur, fr, hc⟩ := own_tag ho.1 k e
  exact hn cur _ fr hc (by simp)

theorem ko_append {w w' : World} {base : Nat} {v v' : Value} {n : Nat} {xs : List Value} (hown : w.ownsRow base 5 1 v n xs) (g : w.grownBy w' v.ownBlock) (hb : base ≤ w.heap.size) (hat : v'.ownBlock = v.ownBlock ∨ v'.ownBlock = some w.heap.size) : KO base v v' w w' := by
  refine ⟨⟨(Below.refl _ _).grown g hb (fun k hk => (hown.lt k hk).1), fun k hk hn => ?_⟩, fun k hk => ?_⟩
  · obtain ⟨_, _, _, _, hold⟩ := g
    exact hold k hk (fun e => hn e.symm)
  · rcases hat with h | h
    · exact Or.inl (by rw [← h]; exact hk)
    · rw [h] at hk; cases hk; exact Or.inr (Nat.le_refl _)

/-- append of one byte that lies in a block: an operation's law. -/
theorem wp_byte {w : World} {o : Oper} {a : Act} {K : Act → World → Prop} {Q : Exit → Act → World → Prop} (s x : Operand)
    (ho : o.op = .call { callee := .builtin .append, args := #[s, x], argTypes := #[27, 27] }) (base : Nat) (v : Value) (bs : List Nat) (hs : a.eval s = v) (hown : Own base w v bs)
    (g y : Nat) (hy : y < 256) (z : Int) (hz : z = (y : Int)) (hx : a.eval x = .slice (some ⟨g, 0, none⟩) 1 1) (hc : w.cell? ⟨g, 0, none⟩ = some (.int .u8 z)) (hl : bs.length ≤ 1000000000) (hb : base ≤ w.heap.size)
    (h : ∀ v' w', Own base w' v' (bs ++ [y]) → KO base v v' w w' → K (a.put o.dst v') w') : Oper.wp Tryd.prog o a w K Q := by
  obtain ⟨i0, hi, hz0, hz1, hz2⟩ := info_parts Tryd.info5
  subst hz
  obtain ⟨v', w', hr, own', g', _, hat⟩ := run_append_own_at (P := Tryd.prog) w base 27 o.type 5 i0 (.int .u8 0) 1 1 Tryd.underlying27 hi hz0 hz1 hz2 rfl (by decide) v bs.length (u8s bs) hown.1 ⟨g, 0, none⟩ 1 1 [.int .u8 (y : Int)] rfl
    (fun j u hj => by
      cases j with
      | zero => rw [Addr.add_lit]; simp only [List.getElem?_cons_zero, Option.some.injEq] at hj; rw [← hj]; exact hc
      | succ j => simp at hj) (one1 _) (by unfold maxLen; omega) (by omega) hb
  unfold Oper.wp execOp
  simp only [ho, resolve, invoke, builtin, Sem.run_bind, Sem.run_pure, Result.andThen_ok, List.map_toArray, List.map_cons, List.map_nil, hs, hx, hr]
  exact h v' w' (own_snoc hy hown.2 own') (ko_append hown.1 g' hb hat)
/-- the same, the byte's block just made: for a list of operations. -/
theorem wpList_byte {w : World} {ops : Array Oper} {rest : List Oper} {o : Oper} {a : Act} {Q : Exit → Act → World → Prop} (hgd : o.guard = none) (s x : Operand)
    (ho : o.op = .call { callee := .builtin .append, args := #[s, x], argTypes := #[27, 27] }) (base : Nat) (v : Value) (bs : List Nat) (hs : a.eval s = v) (hown : Own base w v bs)
    (y : Nat) (hy : y < 256) (z : Int) (hz : z = (y : Int)) (hx : a.eval x = .slice (some ⟨w.heap.size, 0, none⟩) 1 1) (hl : bs.length ≤ 1000000000) (hb : base ≤ w.heap.size)
    (h : ∀ v' w', Own base w' v' (bs ++ [y]) → KO base v v' w w' → wpList Tryd.prog ops Q rest (a.put o.dst v') w') : wpList Tryd.prog ops Q (o :: rest) a (w.alloc (.cells #[.int .u8 z] 5)) := by
  have bA : Below w.heap.size w (w.alloc (.cells #[.int .u8 z] 5)) := (Below.refl _ w).alloc (Nat.le_refl _) _
  refine wpList_plain hgd fun K hK => wp_byte s x ho base v bs hs ⟨hown.1.alloc _, hown.2⟩ w.heap.size y hy z hz hx ?_ hl (Nat.le_trans hb bA.size) fun v' w' o' k' => hK _ _ (h v' w' o' (k'.fresh bA hb))
  have := heap_alloc_new w (.cells #[.int .u8 z] 5)
  exact (World.cell?_of_block (w := w.alloc (.cells #[.int .u8 z] 5)) (a := ⟨w.heap.size, 0, none⟩) rfl).trans (by simp only [World.cell?, this]; rfl)
/-- append of a string: an operation's law. -/
theorem wp_str {w : World} {o : Oper} {a : Act} {K : Act → World → Prop} {Q : Exit → Act → World → Prop} (s x : Operand)
    (ho : o.op = .call { callee := .builtin .append, args := #[s, x], argTypes := #[27, 9] }) (base : Nat) (v : Value) (bs : List Nat) (hs : a.eval s = v) (hown : Own base w v bs)
    (t : ByteArray) (hx : a.eval x = .string t) (ht : t.size ≤ 100) (hl : bs.length ≤ 1000000000) (hb : base ≤ w.heap.size)
    (h : ∀ v' w', Own base w' v' (bs ++ bytesOf t) → Only base [5] w w' → K (a.put o.dst v') w') : Oper.wp Tryd.prog o a w K Q := by
  obtain ⟨i0, hi, hz0, hz1, hz2⟩ := info_parts Tryd.info5
  obtain ⟨v', w', hr, own', g', _⟩ := Lib.run_append_own_string (P := Tryd.prog) w base 27 9 o.type 5 i0 Tryd.underlying27 Tryd.underlying9 hi hz0 hz1 hz2 v bs.length (u8s bs) hown.1 t (by unfold maxLen; omega) (by omega) hb
  unfold Oper.wp execOp
  simp only [ho, resolve, invoke, builtin, Sem.run_bind, Sem.run_pure, Result.andThen_ok, List.map_toArray, List.map_cons, List.map_nil, hs, hx, hr]
  refine h v' w' ⟨?_, ?_⟩ ((Only.refl base [5] w).own hown.1 g' hb (Nat.le_refl _) (by simp))
  · rw [List.length_append, bytesOf_len, show u8s (bs ++ bytesOf t) = u8s bs ++ u8s (bytesOf t) by simp [u8s], bytesOf_cells]; exact own'
  · intro y hy
    rcases List.mem_append.1 hy with h | h
    · exact hown.2 y h
    · exact bytesOf_lt t y h
end Go.Proofs.YtjcllplgiffmgaaDoor

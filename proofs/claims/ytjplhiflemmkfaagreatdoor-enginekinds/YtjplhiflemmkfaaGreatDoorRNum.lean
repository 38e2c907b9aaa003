/- synodalref2.num: a contract. Appends onto a row of the call's own, and which blocks they leave alone: laws for lists of operations and for regions that draw. synodalref2.num, synodalref2.list: contracts that say which blocks are left alone. synodalref2.wrong: a contract. synodalref2.entry: a contract. synodalref2.EncodeEntry: a contract. -/
import Derived.Test.YtjplhiflemmkfaaGreatDoorWriter
import Derived.Test.YtjplhiflemmkfaaGreatDoorWriterE
import Derived.Maps.AppendAt
import Derived.Deep.RegionHeldLaw
import Derived.Test.YtjplhiflemmkfaaGreatDoorWriterM
import Derived.Test.YtjplhiflemmkfaaGreatDoorReadPure
import Derived.Deep.DeepCutAuto
namespace Go.Proofs.YtjplhiflemmkfaaGreatDoor
open Go.RowKit

theorem own_snoc {base : Nat} {w : World} {v : Value} {bs : List Nat} {x : Nat} (hx : x < 256) (hb : ∀ y ∈ bs, y < 256) (h : w.ownsRow base 5 1 v (bs.length + 1) (u8s bs ++ [Value.int .u8 (x : Int)])) : Own base w v (bs ++ [x]) := by
  refine ⟨?_, ?_⟩
  · rw [List.length_append, show u8s (bs ++ [x]) = u8s bs ++ [Value.int .u8 (x : Int)] by simp [u8s]]; exact h
  · intro y hy
    rcases List.mem_append.1 hy with h | h
    · exact hb y h
    · simp at h; omega

end Go.Proofs.YtjplhiflemmkfaaGreatDoor
namespace Go.Proofs.YtjplhiflemmkfaaGreatDoor
open Go.RowKit

/-- all but the row's block is kept; the new row lies in the old one's block or in a new one. -/
def KO (base : Nat) (v v' : Value) (w w' : World) : Prop := Kept base (fun k => v.ownBlock = some k) w w' ∧ ∀ k, v'.ownBlock = some k → v.ownBlock = some k ∨ w.heap.size ≤ k
theorem KO.refl (base : Nat) (v : Value) (w : World) : KO base v v w w := ⟨Kept.refl _ _ _, fun _ h => Or.inl h⟩
theorem KO.trans {base : Nat} {v v1 v2 : Value} {w w1 w2 : World} (h : KO base v v1 w w1) (h' : KO base v1 v2 w1 w2) : KO base v v2 w w2 := by
  refine ⟨h.1.trans h'.1 (fun j hj e => ?_), fun k hk => ?_⟩
  · rcases h.2 j e with h1 | h1
    · exact h1
    · omega
  · rcases h'.2 k hk with h1 | h1
    · exact h.2 k h1
    · exact Or.inr (Nat.le_trans h.1.size h1)
theorem KO.fresh {base : Nat} {v v' : Value} {w w1 w' : World} (h : KO base v v' w1 w') (hb : Below w.heap.size w w1) (hs : base ≤ w.heap.size) : KO base v v' w w' :=
  ⟨(Kept.of_below hb hs).trans h.1 (fun _ _ e => e), fun k hk => (h.2 k hk).imp id (fun h1 => Nat.le_trans hb.size h1)⟩
theorem KO.below {base : Nat} {v v' : Value} {w w' : World} (h : KO base v v' w w') : Below base w w' := h.1.1
theorem KO.size {base : Nat} {v v' : Value} {w w' : World} (h : KO base v v' w w') : w.heap.size ≤ w'.heap.size := h.1.size
/-- a block that is not the row's stays. -/
theorem KO.block {base : Nat} {v v' : Value} {w w' : World} (h : KO base v v' w w') {k : Nat} (hk : k < w.heap.size) (hn : v.ownBlock ≠ some k) : w'.heap[k]? = w.heap[k]? := h.1.2 k hk hn
theorem KO.only {base : Nat} {v v' : Value} {w w' : World} {bs : List Nat} (h : KO base v v' w w') (ho : Own base w v bs) : Only base [5] w w' := by
  refine ⟨h.below, fun k hk hn => h.block hk (fun e => ?_)⟩
  obtain ⟨_, cur, fr, hc⟩ := own_tag ho.1 k e
  exact hn cur _ fr hc (by simp)

theorem ko_append {w w' : World} {base : Nat} {v v' : Value} {n : Nat} {xs : List Value} (hown : w.ownsRow base 5 1 v n xs) (g : w.grownBy w' v.ownBlock) (hb : base ≤ w.heap.size) (hat : v'.ownBlock = v.ownBlock ∨ v'.ownBlock = some w.heap.size) : KO base v v' w w' := by
  refine ⟨⟨(Below.refl _ _).grown g hb (fun k hk => (hown.lt k hk).1), fun k hk hn => ?_⟩, fun k hk => ?_⟩
  · obtain ⟨_, _, _, _, hold⟩ := g
    exact hold k hk (fun e => hn e.symm)
  · rcases hat with h | h
    · exact Or.inl (by rw [← h]; exact hk)
    · rw [h] at hk; cases hk; exact Or.inr (Nat.le_refl _)

/-- append of one byte that lies in a block: an operation's law. -/
theorem wp_byte {w : World} {o : Oper} {a : Act} {K : Act → World → Prop} {Q : Exit → Act → World → Prop} (s x : Operand)
    (ho : o.op = .call { callee := .builtin .append, args := #[s, x], argTypes := #[55, 55] }) (base : Nat) (v : Value) (bs : List Nat) (hs : a.eval s = v) (hown : Own base w v bs)
    (g y : Nat) (hy : y < 256) (z : Int) (hz : z = (y : Int)) (hx : a.eval x = .slice (some ⟨g, 0, none⟩) 1 1) (hc : w.cell? ⟨g, 0, none⟩ = some (.int .u8 z)) (hl : bs.length ≤ 1000000000) (hb : base ≤ w.heap.size)
    (h : ∀ v' w', Own base w' v' (bs ++ [y]) → KO base v v' w w' → K (a.put o.dst v') w') : Oper.wp Tryz.prog o a w K Q := by
  obtain ⟨i0, hi, hz0, hz1, hz2⟩ := info_parts Tryz.info5
  subst hz
  obtain ⟨v', w', hr, own', g', _, hat⟩ := run_append_own_at (P := Tryz.prog) w base 55 o.type 5 i0 (.int .u8 0) 1 1 Tryz.underlying55 hi hz0 hz1 hz2 rfl (by decide) v bs.length (u8s bs) hown.1 ⟨g, 0, none⟩ 1 1 [.int .u8 (y : Int)] rfl
    (fun j u hj => by
      cases j with
      | zero => rw [Addr.add_lit]; simp only [List.getElem?_cons_zero, Option.some.injEq] at hj; rw [← hj]; exact hc
      | succ j => simp at hj) (one1 _) (by unfold maxLen; omega) (by omega) hb
  unfold Oper.wp execOp
  simp only [ho, resolve, invoke, builtin, Sem.run_bind, Sem.run_pure, Result.andThen_ok, List.map_toArray, List.map_cons, List.map_nil, hs, hx, hr]
  exact h v' w' (own_snoc hy hown.2 own') (ko_append hown.1 g' hb hat)
/-- the same, the byte's block just made: for a list of operations. -/
theorem wpList_byte {w : World} {ops : Array Oper} {rest : List Oper} {o : Oper} {a : Act} {Q : Exit → Act → World → Prop} (hgd : o.guard = none) (s x : Operand)
    (ho : o.op = .call { callee := .builtin .append, args := #[s, x], argTypes := #[55, 55] }) (base : Nat) (v : Value) (bs : List Nat) (hs : a.eval s = v) (hown : Own base w v bs)
    (y : Nat) (hy : y < 256) (z : Int) (hz : z = (y : Int)) (hx : a.eval x = .slice (some ⟨w.heap.size, 0, none⟩) 1 1) (hl : bs.length ≤ 1000000000) (hb : base ≤ w.heap.size)
    (h : ∀ v' w', Own base w' v' (bs ++ [y]) → KO base v v' w w' → wpList Tryz.prog ops Q rest (a.put o.dst v') w') : wpList Tryz.prog ops Q (o :: rest) a (w.alloc (.cells #[.int .u8 z] 5)) := by
  have bA : Below w.heap.size w (w.alloc (.cells #[.int .u8 z] 5)) := (Below.refl _ w).alloc (Nat.le_refl _) _
  refine wpList_plain hgd fun K hK => wp_byte s x ho base v bs hs ⟨hown.1.alloc _, hown.2⟩ w.heap.size y hy z hz hx ?_ hl (Nat.le_trans hb bA.size) fun v' w' o' k' => hK _ _ (h v' w' o' (k'.fresh bA hb))
  have := heap_alloc_new w (.cells #[.int .u8 z] 5)
  exact (World.cell?_of_block (w := w.alloc (.cells #[.int .u8 z] 5)) (a := ⟨w.heap.size, 0, none⟩) rfl).trans (by simp only [World.cell?, this]; rfl)
/-- append of a string: an operation's law. -/
theorem wp_str {w : World} {o : Oper} {a : Act} {K : Act → World → Prop} {Q : Exit → Act → World → Prop} (s x : Operand)
    (ho : o.op = .call { callee := .builtin .append, args := #[s, x], argTypes := #[55, 9] }) (base : Nat) (v : Value) (bs : List Nat) (hs : a.eval s = v) (hown : Own base w v bs)
    (t : ByteArray) (hx : a.eval x = .string t) (ht : t.size ≤ 100) (hl : bs.length ≤ 1000000000) (hb : base ≤ w.heap.size)
    (h : ∀ v' w', Own base w' v' (bs ++ bytesOf t) → Only base [5] w w' → K (a.put o.dst v') w') : Oper.wp Tryz.prog o a w K Q := by
  obtain ⟨i0, hi, hz0, hz1, hz2⟩ := info_parts Tryz.info5
  obtain ⟨v', w', hr, own', g', _⟩ := Lib.run_append_own_string (P := Tryz.prog) w base 55 9 o.type 5 i0 Tryz.underlying55 Tryz.underlying9 hi hz0 hz1 hz2 v bs.length (u8s bs) hown.1 t (by unfold maxLen; omega) (by omega) hb
  unfold Oper.wp execOp
  simp only [ho, resolve, invoke, builtin, Sem.run_bind, Sem.run_pure, Result.andThen_ok, List.map_toArray, List.map_cons, List.map_nil, hs, hx, hr]
  refine h v' w' ⟨?_, ?_⟩ ((Only.refl base [5] w).own hown.1 g' hb (Nat.le_refl _) (by simp))
  · rw [List.length_append, bytesOf_len, show u8s (bs ++ bytesOf t) = u8s bs ++ u8s (bytesOf t) by simp [u8s], bytesOf_cells]; exact own'
  · intro y hy
    rcases List.mem_append.1 hy with h | h
    · exact hown.2 y h
    · exact bytesOf_lt t y h
end Go.Proofs.YtjplhiflemmkfaaGreatDoor
namespace Go.Proofs.YtjplhiflemmkfaaGreatDoor
open Go.RowKit

end Go.Proofs.YtjplhiflemmkfaaGreatDoor
namespace Go.Proofs.YtjplhiflemmkfaaGreatDoor
open Go.RowKit

/-- the number that an entry is refused by. -/
def wrongE (kind : Int) (ts n : Nat) (to' : Int) : Nat := firstOf [0, refuse 0 kind, refuse 4 ts, refuse 5 n, refuse 1 to']
theorem wrong_kind {kind : Int} {ts n : Nat} {to' : Int} (h : kind < 0 ∨ 4 < kind) : wrongE kind ts n to' = 3 := by
  have e : refuse 0 kind = 3 := by unfold refuse; rw [if_pos (by show (kind < (0 : Int) ∨ (4 : Int) < kind); exact h)]; rfl
  simp [wrongE, firstOf, e]
theorem wrong_long {kind : Int} {ts n : Nat} {to' : Int} (h1 : 0 ≤ kind) (h2 : kind ≤ 4) (h : 16 < ts) : wrongE kind ts n to' = 5 := by
  have e : refuse 0 kind = 0 := by unfold refuse; rw [if_neg (by show ¬ (kind < (0 : Int) ∨ (4 : Int) < kind); omega)]
  have e4 : refuse 4 (ts : Int) = 5 := by unfold refuse; rw [if_pos (by show ((ts : Int) < (0 : Int) ∨ (16 : Int) < (ts : Int)); omega)]; rfl
  simp [wrongE, firstOf, e, e4]
theorem wrong_many {kind : Int} {ts n : Nat} {to' : Int} (h1 : 0 ≤ kind) (h2 : kind ≤ 4) (h3 : ts ≤ 16) (h : 9 < n) : wrongE kind ts n to' = 4 := by
  have e : refuse 0 kind = 0 := by unfold refuse; rw [if_neg (by show ¬ (kind < (0 : Int) ∨ (4 : Int) < kind); omega)]
  have e4 : refuse 4 (ts : Int) = 0 := by unfold refuse; rw [if_neg (by show ¬ ((ts : Int) < (0 : Int) ∨ (16 : Int) < (ts : Int)); omega)]
  have e5 : refuse 5 (n : Int) = 4 := by unfold refuse; rw [if_pos (by show ((n : Int) < (0 : Int) ∨ (9 : Int) < (n : Int)); omega)]; rfl
  simp [wrongE, firstOf, e, e4, e5]
theorem wrong_to {kind : Int} {ts n : Nat} {to' : Int} (h1 : 0 ≤ kind) (h2 : kind ≤ 4) (h3 : ts ≤ 16) (h4 : n ≤ 9) (h : to' < 0 ∨ 2 < to') : wrongE kind ts n to' = 3 := by
  have e : refuse 0 kind = 0 := by unfold refuse; rw [if_neg (by show ¬ (kind < (0 : Int) ∨ (4 : Int) < kind); omega)]
  have e4 : refuse 4 (ts : Int) = 0 := by unfold refuse; rw [if_neg (by show ¬ ((ts : Int) < (0 : Int) ∨ (16 : Int) < (ts : Int)); omega)]
  have e5 : refuse 5 (n : Int) = 0 := by unfold refuse; rw [if_neg (by show ¬ ((n : Int) < (0 : Int) ∨ (9 : Int) < (n : Int)); omega)]
  have e1 : refuse 1 to' = 3 := by unfold refuse; rw [if_pos (by show (to' < (0 : Int) ∨ (2 : Int) < to'); exact h)]; rfl
  simp [wrongE, firstOf, e, e4, e5, e1]
theorem wrong_ok {kind : Int} {ts n : Nat} {to' : Int} (h1 : 0 ≤ kind) (h2 : kind ≤ 4) (h3 : ts ≤ 16) (h4 : n ≤ 9) (h5 : 0 ≤ to') (h6 : to' ≤ 2) : wrongE kind ts n to' = 0 := by
  have e : refuse 0 kind = 0 := by unfold refuse; rw [if_neg (by show ¬ (kind < (0 : Int) ∨ (4 : Int) < kind); omega)]
  have e4 : refuse 4 (ts : Int) = 0 := by unfold refuse; rw [if_neg (by show ¬ ((ts : Int) < (0 : Int) ∨ (16 : Int) < (ts : Int)); omega)]
  have e5 : refuse 5 (n : Int) = 0 := by unfold refuse; rw [if_neg (by show ¬ ((n : Int) < (0 : Int) ∨ (9 : Int) < (n : Int)); omega)]
  have e1 : refuse 1 to' = 0 := by unfold refuse; rw [if_neg (by show ¬ (to' < (0 : Int) ∨ (2 : Int) < to'); omega)]
  simp [wrongE, firstOf, e, e4, e5, e1]
theorem wrong_put (kind client seq : Int) (t : ByteArray) (ys : List Int) (to' : Int) : (putEntry kind client seq t ys to' ([], 0)).2 = wrongE kind t.size ys.length to' := putEntry_err _ _ _ _ _ _ _

end Go.Proofs.YtjplhiflemmkfaaGreatDoor
namespace Go.Proofs.YtjplhiflemmkfaaGreatDoor
open Go.RowKit

theorem step_on {w : World} {ops : Array Oper} {o : Oper} {a : Act} {K : Act → World → Prop} {Q : Exit → Act → World → Prop} {E : Prop} (hg : o.guard = none) (h : Oper.wp Tryz.prog o a w K Q) :
    if Region.wanted o (yielded ops a.tmps) = true then Oper.wp Tryz.prog o a w K Q else E := by
  have hw : Region.wanted o (yielded ops a.tmps) = true := by simp [Region.wanted, hg]
  rw [if_pos hw]; exact h
theorem step_app {w : World} {ops : Array Oper} {o : Oper} {a : Act} {K : Act → World → Prop} {Q : Exit → Act → World → Prop} {E : Prop} (s x : Operand) (_ho : o.op = .call { callee := .builtin .append, args := #[s, x], argTypes := #[55, 55] }) (hg : o.guard = none) (h : Oper.wp Tryz.prog o a w K Q) :
    if Region.wanted o (yielded ops a.tmps) = true then Oper.wp Tryz.prog o a w K Q else E := step_on hg h
theorem new_cell (x : World) (u : Value) (t : TypeId) : (x.alloc (.cells #[u] t)).cell? ⟨x.heap.size, 0, none⟩ = some u := by
  have := heap_alloc_new x (.cells #[u] t)
  simp only [World.cell?, this]; rfl
theorem ko_new {base : Nat} {v v' : Value} {w w' : World} {u : Value} {t : TypeId} (h : KO base v v' (w.alloc (.cells #[u] t)).drew w') (hv : v.ownBlock ≠ some w.heap.size) : w'.cell? ⟨w.heap.size, 0, none⟩ = some u := by
  have hs : w.heap.size < (w.alloc (.cells #[u] t)).drew.heap.size := by show _ < (w.alloc (.cells #[u] t)).heap.size; simp
  rw [World.cell?_of_block (w := (w.alloc (.cells #[u] t)).drew) (a := ⟨w.heap.size, 0, none⟩) (h.block hs hv)]
  exact new_cell w u t
theorem own_ne {base : Nat} {w : World} {v : Value} {bs : List Nat} {k : Nat} (h : Own base w v bs) (hk : k < base) : v.ownBlock ≠ some k := fun e => by
  have := (own_tag h.1 k e).1
  omega

end Go.Proofs.YtjplhiflemmkfaaGreatDoor
namespace Go.Proofs.YtjplhiflemmkfaaGreatDoor
open Go.RowKit

theorem wrong_ne {kind : Int} {ts n : Nat} {to' : Int} (h : ¬ (0 ≤ kind ∧ kind ≤ 4 ∧ ts ≤ 16 ∧ n ≤ 9 ∧ 0 ≤ to' ∧ to' ≤ 2)) : wrongE kind ts n to' ≠ 0 := by
  by_cases h1 : 0 ≤ kind ∧ kind ≤ 4
  · by_cases h2 : ts ≤ 16
    · by_cases h3 : n ≤ 9
      · rw [wrong_to h1.1 h1.2 h2 h3 (by omega)]; decide
      · rw [wrong_many h1.1 h1.2 h2 (by omega)]; decide
    · rw [wrong_long h1.1 h1.2 (by omega)]; decide
  · rw [wrong_kind (by omega)]; decide

end Go.Proofs.YtjplhiflemmkfaaGreatDoor

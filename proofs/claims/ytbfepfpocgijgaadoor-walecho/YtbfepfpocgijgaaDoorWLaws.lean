/- append onto a row of rows behind a guard; zeros that were made; records that are too long or don't fit: laws and contracts. -/
import Derived.Test.YtbfepfpocgijgaaDoorWNice
namespace Go.Proofs.YtbfepfpocgijgaaDoor
open Go.RowKit

theorem wpList_append_rows_w {w : World} {ops : Array Oper} {rest : List Oper} {o : Oper} {a : Act} {Q : Exit → Act → World → Prop} (s x : Operand)
    (ho : o.op = .call { callee := .builtin .append, args := #[s, x], argTypes := #[31, 31] }) (hw : Region.wanted o (yielded ops a.tmps) = true) (base : Nat) (v : Value) (vs : List Value) (nx : Nat) (hs : a.eval s = v) (hown : w.ownsRow base 32 1 v nx vs)
    (ao : Option Addr) (m c : Nat) (us : List Value) (hx : a.eval x = .slice ao m c) (hm : us.length = m) (hus : ∀ i u, us[i]? = some u → ∃ ad, ao = some ad ∧ w.cell? (ad.add i) = some u) (hone : ∀ u ∈ us, u.oneCell' = true) (hc : ao = none → c = 0) (hl : nx + m ≤ 1000000000) (hb : base ≤ w.heap.size)
    (h : ∀ ao' cap' w', w'.ownsRow base 32 1 (.slice ao' (nx + m) cap') (nx + m) (vs ++ us) → Kept base (fun k => v.ownBlock = some k) w w' → ((Value.slice ao' (nx + m) cap').ownBlock = v.ownBlock ∨ (Value.slice ao' (nx + m) cap').ownBlock = some w.heap.size) → wpList Tryd.prog ops Q rest (a.put o.dst (.slice ao' (nx + m) cap')) w') :
    wpList Tryd.prog ops Q (o :: rest) a w := by
  obtain ⟨i0, hi, hz0, hz1, hz2⟩ := info_parts Tryd.info27
  refine BigFrame.wpList_want hw fun K hK => ?_
  cases ao with
  | none =>
    obtain rfl : us = [] := by
      cases us with
      | nil => rfl
      | cons u us => obtain ⟨ad, e, _⟩ := hus 0 u rfl; cases e
    obtain rfl := hc rfl
    obtain rfl : m = 0 := hm.symm
    obtain ⟨aov, capv, rfl⟩ : ∃ aov capv, v = .slice aov nx capv := by
      rcases hown.2 with ⟨rfl, h0⟩ | ⟨gb, cap2, cur, rfl, _⟩
      · exact ⟨none, 0, by rw [h0]⟩
      · exact ⟨_, cap2, rfl⟩
    have hrun := run_append_owned_none (P := Tryd.prog) (w := w) base 31 o.type 32 i0 1 Tryd.underlying31 hi _ _ _ hown
    unfold Oper.wp
    simp [execOp, ho, resolve, invoke, builtin, hs, hx, hrun, Result.andThen]
    exact hK _ _ (h aov capv w (by simpa using hown) (Kept.refl _ _ _) (Or.inl rfl))
  | some ad =>
    obtain ⟨v', w', hr, own', g', _, hat⟩ := run_append_own_at (P := Tryd.prog) w base 31 o.type 32 i0 (.slice none 0 0) 1 24 Tryd.underlying31 hi hz0 hz1 hz2 rfl (by decide) v nx vs hown ad m c us (by simp [hm]) (fun j u hj => by obtain ⟨ad', e, hcell⟩ := hus j u hj; cases e; exact hcell) hone (by unfold maxLen; omega) (by omega) hb
    obtain ⟨ao', cap', rfl⟩ : ∃ ao' cap', v' = .slice ao' (nx + m) cap' := by
      rcases own'.2 with ⟨rfl, h0⟩ | ⟨gb, cap2, cur, rfl, _⟩
      · exact ⟨none, 0, by rw [h0]⟩
      · exact ⟨_, cap2, rfl⟩
    have hkept : Kept base (fun k => v.ownBlock = some k) w w' := ⟨(Below.refl _ _).grown g' hb (fun k hk => (hown.lt k hk).1), fun k hk hn => by
      obtain ⟨_, _, _, _, hold⟩ := g'
      exact hold k hk (fun e => hn e.symm)⟩
    unfold Oper.wp execOp
    simp only [ho, resolve, invoke, builtin, Sem.run_bind, Sem.run_pure, Result.andThen_ok, List.map_toArray, List.map_cons, List.map_nil, hs, hx, hr]
    exact hK _ _ (h ao' cap' w' own' hkept hat)
theorem rows_at {w : World} {base : Nat} {ao : Option Addr} {n cap : Nat} {vs : List Value} {xs : List (List Nat)} (h : w.ownsRow base 32 1 (.slice ao n cap) n vs) (hn : xs.length = n) (hv : RowVals w vs xs) : RowsArg w ao xs := by
  obtain ⟨ao', cap', e, _, _, _, h'⟩ := rows_arg h hn hv
  cases e; exact h'
theorem below_new {base : Nat} {f : Nat → Prop} {w w' : World} {o : Obj} (h : Kept base f (w.alloc o) w') (hf : ∀ k, f k → w.heap.size ≤ k) : Below w.heap.size w w' := by
  have h1 : Below w.heap.size w (w.alloc o) := (Below.refl _ w).alloc (Nat.le_refl _) o
  exact ⟨h.1.os.trans h1.os, h.1.tape.trans h1.tape, h.1.output.trans h1.output, Nat.le_trans h1.size h.1.size, fun k hk => (h.2 k (Nat.lt_of_lt_of_le hk h1.size) (fun e => by have := hf k e; omega)).trans (h1.block k hk)⟩
theorem below_of_kept {base B : Nat} {f : Nat → Prop} {w w' : World} (h : Kept base f w w') (hf : ∀ k, f k → B ≤ k) (hB : B ≤ w.heap.size) : Below B w w' :=
  ⟨h.1.os, h.1.tape, h.1.output, h.1.size, fun k hk => h.2 k (Nat.lt_of_lt_of_le hk hB) (fun e => by have := hf k e; omega)⟩
theorem built_at {w : World} {u : Value} {t : TypeId} {n : Nat} (hn : w.heap.size = n) : ∀ i x, [u][i]? = some x → ∃ ad, some (⟨n, 0, none⟩ : Addr) = some ad ∧ (w.alloc (.cells #[u] t)).cell? (ad.add i) = some x := by
  subst hn; exact built_one
theorem fit_small {w : World} {ao : Option Addr} {xs : List (List Nat)} (h : RowsArg w ao xs) : Fit (smallOf xs) := by
  intro x hx
  obtain ⟨h1, h2⟩ := smallOf_mem x hx
  obtain ⟨i, hi, rfl⟩ := List.mem_iff_getElem.1 h2
  obtain ⟨_, _, _, _, _, hb, _⟩ := h i hi
  rw [List.getD_eq_getElem?_getD, List.getElem?_eq_getElem hi] at hb
  exact ⟨hb.1, by omega⟩
theorem takes_small (xs : List (List Nat)) : takes (smallOf xs) ≤ 2464 := by
  have h1 := takes_le (m := 300) (xs := smallOf xs) fun x hx => (smallOf_mem x hx).1
  have h2 := smallOf_len xs
  omega
/-- append onto an empty row that was just built. -/
theorem rows_empty (base : Nat) (w : World) (h : base ≤ w.heap.size) : (w.alloc (.cells #[] 32)).ownsRow base 32 1 (.slice (some ⟨w.heap.size, 0, none⟩) 0 0) 0 [] := World.ownsRow_made w #[] 0 h (by decide) rfl

/-- zeros that were just made. -/
def zeros (n : Nat) : List Nat := List.replicate n 0
theorem zeros_length (n : Nat) : (zeros n).length = n := by simp [zeros]
theorem zeros_lt (n : Nat) : ∀ x ∈ zeros n, x < 256 := by intro x hx; have := List.eq_of_mem_replicate hx; omega
theorem zeros_made {base n : Nat} {w w' : World} (h : w'.ownsRow base 5 1 (.slice (some ⟨w.heap.size, 0, none⟩) n n) n (madeCells #[Value.int .u8 0] n).toList) (hg : w.grownBy w' none) :
    Bytes w' (some ⟨w.heap.size, 0, none⟩) (zeros n) ∧ Below w.heap.size w w' := by
  have o2 : Own base w' (.slice (some ⟨w.heap.size, 0, none⟩) n n) (zeros n) := by
    refine ⟨?_, zeros_lt n⟩
    have e : u8s (zeros n) = (madeCells #[Value.int .u8 0] n).toList := by rw [toList_madeCells_one, zeros, u8s, List.map_replicate]; rfl
    rw [zeros_length, e]; exact h
  obtain ⟨ao, cap, ev, _, _, hby, _⟩ := o2.slice
  simp only [Value.slice.injEq] at ev
  refine ⟨by rw [ev.1]; exact hby, (Below.refl _ _).grown hg (Nat.le_refl _) (fun k hk => by cases hk)⟩

theorem frame_long_len (ao : Option Addr) (n cap : Nat) (w : World) (h : 65536 < n) :
    Calls Tryd.prog 39 #[.slice ao n cap] w fun e w' => e = .returned (.tuple #[.slice none 0 0, .int .i64 5]) ∧ w' = w := by
  go_enter Tryd.func39, Tryd.ntmps39
  go_wp2
  go_ret2
  exact ⟨rfl, rfl⟩
theorem framed_long (b : Nat) (ao : Option Addr) (m cap : Nat) (w : World) (hc : w.cell? ⟨b, 0, none⟩ = some (.slice ao m cap)) (h : 65536 < m) :
    Calls Tryd.prog 29 #[.slice (some ⟨b, 0, none⟩) 1 1] w fun e w' => e = .returned (.tuple #[.slice none 0 0, .int .i64 5]) ∧ w' = w := by
  go_enter Tryd.func29, Tryd.ntmps29
  go_wp2_with fail
  refine wp_loop_rounds 1 ?_; rw [rounds_succ]
  go_wp2_with fail
  refine (frame_long_len ao m cap w h).mono ?_
  rintro e w1 ⟨rfl, rfl⟩
  go_wp2
  go_ret2
  exact ⟨rfl, rfl⟩
theorem wappend_long (l : Value) (ao : Option Addr) (m cap : Nat) (w : World) (h : 65536 < m) :
    Calls Tryd.prog 13 #[l, .slice ao m cap] w fun e w' => e = .returned (.int .i64 5) ∧ Below w.heap.size w w' := by
  have HC := hide (framed_long w.heap.size ao m cap (w.alloc (.cells #[.slice ao m cap] 32)) (by rw [cell_of_block (heap_alloc_new w _)]; rfl) h)
  go_enter Tryd.func13, Tryd.ntmps13
  go_wp2_with fail
  refine (unhide HC).mono ?_
  rintro e w1 ⟨rfl, rfl⟩
  go_wp2
  go_ret
  exact ⟨rfl, (Below.refl _ _).alloc (Nat.le_refl _) _⟩
theorem append_full (s : St) (b : List Nat) (h1 : s.dead = false) (h2 : s.room < s.bs.length + b.length) : s.append b = (14, s) := by
  have hb : s.begin (s.bs.length + b.length) = (14, s) := by
    unfold St.begin
    rw [if_neg (by simp [h1]), if_pos h2]
  simp only [St.append, hb]; rfl
theorem nfull (base l p : Nat) (q : Option Nat) (room syn ops n : Nat) (xs : List (List Nat)) (g a : Addr) (ao : Option Addr) (m cap : Nat) (x : List Nat) (hm : x.length = m) (w : World) (h : Lg base w l p q (Ls room xs syn ops) n) (hS : Start w g a) (hgz : 4 ≤ base) (hb : base ≤ w.heap.size) (hn : takes xs = n) (ho : ops ≤ 1000000)
    (hby : Bytes w ao x) (hcap : ao = none → cap = 0) (hmc : m ≤ cap) (hbl : m ≤ 65536) (hroom : room ≤ 1000000000) (hfit : room < n + (8 + m)) :
    Calls Tryd.prog 13 #[.pointer (some ⟨l, 0, none⟩), .slice ao m cap] w fun e w' => ∃ q', e = .returned (.int .i64 14) ∧ Lg base w' l p q' (Ls room xs syn ops) n ∧ Kept base (lfoot l p q) w w' ∧ Fresh w q q' :=
  wappend_any base l p q _ n g a ao m cap x hm w h hS hgz hb (by simp only [Ls]; omega) (by simp [Ls]) (by have := h.fits; omega) hby hcap hmc hbl 14 _ (append_full _ _ rfl (by simp only [Ls, cats_len, frame_length, hm, hn]; exact hfit)) _ (by rw [if_neg (by decide)])
end Go.Proofs.YtbfepfpocgijgaaDoor

/- Rows of the document's generations: one behind the other, one more. -/
import Derived.Test.YtgllokinadjiaaaGreatDoorSXAt
import Derived.Deep.RegionLaw
import Derived.Deep.RegionHeld3
import Derived.Deep.RegionHeldLaw
import Derived.Deep.DrawnRows
namespace Go.Proofs.YtgllokinadjiaaaGreatDoor
open Go.RowKit Go.Maps

theorem XGs.inside {F : Nat → Prop} {base : Nat} {w : World} {v : Value} {gs : List Gn} (h : XGs F base w v gs) : XGs (fun k => F k ∧ k < w.heap.size) base w v gs := by
  obtain ⟨xs, h1, h3⟩ := h
  refine ⟨xs, h1, fun i r hi => ?_⟩
  obtain ⟨oo, oc, mo, mc, k1, k2, k3⟩ := h3 i r hi
  refine ⟨oo, oc, mo, mc, k1, fun j hj => ?_, k3⟩
  obtain ⟨a, a1, a2, a3⟩ := k2 j hj
  exact ⟨a, a1, ⟨a2, by have := blk_lt a3; rwa [add_block] at this⟩, a3⟩
theorem XGs.grown {F : Nat → Prop} {base : Nat} {w w' : World} {v : Value} {gs : List Gn} (h : XGs F base w v gs) {row : Option Nat} (hg : w.grownBy w' row) (hF : ∀ j, row = some j → ¬ F j) (hv : ∀ j, v.ownBlock = some j → row ≠ some j) : XGs F base w' v gs :=
  h.keep (D := fun j => row = some j) ((Kp.refl _ w).grown hg (fun _ _ e => e)) (fun k hk e => hF k e hk) (fun k hk e => hv k hk e)
theorem InF.grown {F : Nat → Prop} {w w' : World} {ao : Option Addr} {ys : List Int} (h : InF F w ao ys) {row : Option Nat} (hg : w.grownBy w' row) (hF : ∀ j, row = some j → ¬ F j) : InF F w' ao ys :=
  h.kp (D := fun j => row = some j) ((Kp.refl _ w).grown hg (fun _ _ e => e)) (fun k hk e => hF k e hk)
theorem xg_len {g : Gn} {oo mo : Option Addr} {oc mc j : Nat} {u : Value} (h : (g.xcells (.slice oo 0 oc) (.slice mo g.ms.length mc))[j]? = some u) : j < 5 := (List.getElem?_eq_some_iff.1 h).1
/-- generations laid behind a row. -/
theorem run_catG {F : Nat → Prop} {base b2 : Nat} {w : World} {v : Value} {es : List Gn} (h : XGs F base w v es) (ty : TypeId) (b k c : Nat) (ES : List Gn) (hk : ES.length = k) (hE : XGs F b2 w (.slice (some ⟨b, 0, none⟩) k c) ES) (hl : es.length + k ≤ 1000000) (hb : base ≤ w.heap.size) (hv : ∀ j, v.ownBlock = some j → ¬ F j) :
    ∃ v' w', (Builtin.append_ #[46, 46] ty #[v, .slice (some ⟨b, 0, none⟩) k c]).run Tryz.prog w = .ok v' w' ∧ XGs F base w' v' (es ++ ES) ∧ w.grownBy w' v.ownBlock ∧ (v'.ownBlock = v.ownBlock ∨ v'.ownBlock = some w.heap.size) := by
  obtain ⟨i0, hi, hz0, hz1, hz2⟩ := info_parts Tryz.infoGn
  obtain ⟨xs, h1, h3⟩ := h
  obtain ⟨ys, o2, m2⟩ := hE
  have hyl : ys.length = k * 5 := by have := o2.1; rw [hk] at this; exact this
  obtain ⟨v', w', hr, o', g', _, hat⟩ := run_append_own_at (P := Tryz.prog) w base 46 ty 26 i0 _ 5 72 Tryz.underlying46 hi hz0 hz1 hz2 rfl (by decide) v es.length xs h1 ⟨b, 0, none⟩ k c ys hyl
    (fun j u hj => World.ownsRow.cells o2 (g := b) rfl j u hj)
    (fun u hu => by
      obtain ⟨q, hq⟩ := List.getElem?_of_mem hu
      have hlt := (List.getElem?_eq_some_iff.1 hq).1
      obtain ⟨e, he⟩ : ∃ e, ES[q / 5]? = some e := ⟨_, List.getElem?_eq_getElem (by omega)⟩
      obtain ⟨oo, oc, mo, mc, k1, _, _⟩ := m2 (q / 5) e he
      obtain ⟨u', hu'⟩ : ∃ u', (e.xcells (.slice oo 0 oc) (.slice mo e.ms.length mc))[q % 5]? = some u' := ⟨_, List.getElem?_eq_getElem (by show q % 5 < 5; omega)⟩
      have hh := k1 (q % 5) u' hu'
      rw [show q / 5 * 5 + q % 5 = q by omega, hq] at hh
      cases hh
      exact Gn.xcells_one e rfl rfl u (List.mem_of_getElem? hu')) (by unfold maxLen; omega) (by omega) hb
  have hxl : xs.length = es.length * 5 := h1.1
  refine ⟨v', w', hr, ⟨_, by rw [List.length_append, hk]; exact o', fun i q hq => ?_⟩, g', hat⟩
  by_cases he : i < es.length
  · rw [List.getElem?_append_left he] at hq
    obtain ⟨oo, oc, mo, mc, u1, u2, u4⟩ := h3 i q hq
    refine ⟨oo, oc, mo, mc, fun j z hj => ?_, u2.grown g' hv, u4⟩
    have := xg_len hj
    rw [List.getElem?_append_left (by omega)]; exact u1 j z hj
  · rw [List.getElem?_append_right (by omega)] at hq
    obtain ⟨oo, oc, mo, mc, u1, u2, u4⟩ := m2 _ q hq
    refine ⟨oo, oc, mo, mc, fun j z hj => ?_, u2.grown g' hv, u4⟩
    have := xg_len hj
    rw [List.getElem?_append_right (by omega), show i * 5 + j - xs.length = (i - es.length) * 5 + j by omega]
    exact u1 j z hj
/-- one generation more. -/
theorem run_oneG {F : Nat → Prop} {base : Nat} {w : World} {v : Value} {es : List Gn} (h : XGs F base w v es) (ty : TypeId) (nb : Nat) (g : Gn) (oo mo : Option Addr) (oc m mc : Nat) (hx : w.heap[nb]? = some (.cells (g.xcells (.slice oo 0 oc) (.slice mo m mc)).toArray 26 (0, 0))) (hm : g.ms.length = m) (him : InF F w mo g.ms) (hml : m ≤ 1000) (hl : es.length ≤ 100000) (hb : base ≤ w.heap.size) (hv : ∀ j, v.ownBlock = some j → ¬ F j) :
    ∃ v' w', (Builtin.append_ #[46, 46] ty #[v, .slice (some ⟨nb, 0, none⟩) 1 1]).run Tryz.prog w = .ok v' w' ∧ XGs F base w' v' (es ++ [g]) ∧ w.grownBy w' v.ownBlock ∧ (v'.ownBlock = v.ownBlock ∨ v'.ownBlock = some w.heap.size) := by
  obtain ⟨i0, hi, hz0, hz1, hz2⟩ := info_parts Tryz.infoGn
  obtain ⟨xs, h1, h3⟩ := h
  obtain ⟨v', w', hr, o', g', _, hat⟩ := run_append_own_at (P := Tryz.prog) w base 46 ty 26 i0 _ 5 72 Tryz.underlying46 hi hz0 hz1 hz2 rfl (by decide) v es.length xs h1 ⟨nb, 0, none⟩ 1 1 (g.xcells (.slice oo 0 oc) (.slice mo m mc)) rfl
    (fun j u hj => by rw [Addr.add_lit, Nat.zero_add, cell_of_block hx]; simpa using hj) (Gn.xcells_one g rfl rfl) (by unfold maxLen; omega) (by omega) hb
  have hxl : xs.length = es.length * 5 := h1.1
  refine ⟨v', w', hr, ⟨_, by rw [List.length_append]; exact o', fun i q hq => ?_⟩, g', hat⟩
  by_cases he : i < es.length
  · rw [List.getElem?_append_left he] at hq
    obtain ⟨uo, uc, no, nc, u1, u2, u4⟩ := h3 i q hq
    refine ⟨uo, uc, no, nc, fun j z hj => ?_, u2.grown g' hv, u4⟩
    have := xg_len hj
    rw [List.getElem?_append_left (by omega)]; exact u1 j z hj
  · rw [List.getElem?_append_right (by omega)] at hq
    have hi0 : i = es.length := by have := (List.getElem?_eq_some_iff.1 hq).1; simp at this; omega
    subst hi0
    simp at hq
    subst hq
    subst hm
    refine ⟨oo, oc, mo, mc, fun j z hj => ?_, him.grown g' hv, hml⟩
    rw [List.getElem?_append_right (by omega), show es.length * 5 + j - xs.length = j by omega]; exact hj
/-- an append that is known to run so. -/
theorem step_cat {w : World} {ops : Array Oper} {o : Oper} {a : Act} {K : Act → World → Prop} {Q : Exit → Act → World → Prop} {E : Prop} (s x : Operand) (ho : o.op = .call { callee := .builtin .append, args := #[s, x], argTypes := #[46, 46] }) (hg : o.guard = none)
    {v z : Value} (hs : a.eval s = v) (hx : a.eval x = z) (P : Value → World → Prop) (hr : ∃ v' w', (Builtin.append_ #[46, 46] o.type #[v, z]).run Tryz.prog w = .ok v' w' ∧ P v' w') (h : ∀ v' w', P v' w' → K (a.put o.dst v') w') :
    if Region.wanted o (yielded ops a.tmps) = true then Oper.wp Tryz.prog o a w K Q else E := by
  refine step_on hg ?_
  obtain ⟨v', w', h1, h2⟩ := hr
  unfold Oper.wp execOp
  simp only [ho, resolve, invoke, builtin, Sem.run_bind, Sem.run_pure, Result.andThen_ok, List.map_toArray, List.map_cons, List.map_nil, hs, hx, h1]
  exact h v' w' h2
/-- a call of Now. -/
theorem step_now {w : World} {ops : Array Oper} {o : Oper} {a : Act} {K : Act → World → Prop} {Q : Exit → Act → World → Prop} {E : Prop} (x : Operand)
    (ho : o.op = .call { callee := .value (.func 11), args := #[x], argTypes := #[34] }) (hg : o.guard = none) (s : Value) (hx : a.eval x = s) (r : Value) (R : World → Prop)
    (hc : Calls Tryz.prog 11 #[s] w fun e w' => e = .returned r ∧ R w') (h : ∀ w', R w' → K (a.put o.dst r) w') :
    if Region.wanted o (yielded ops a.tmps) = true then Oper.wp Tryz.prog o a w K Q else E := by
  refine step_on hg ?_
  have e1 : (execOp a.eval o).run Tryz.prog w = .ok (.enter 11 #[s]) w := by
    unfold execOp
    simp only [ho, resolve, invoke, Sem.run_bind, List.map_toArray, List.map_cons, List.map_nil, hx]
    simp [Act.eval, Deferred.ofValue, Result.andThen]
  unfold Oper.wp
  rw [e1, Oper.upon_enter]
  refine hc.mono ?_
  rintro e w' ⟨rfl, h2⟩
  exact h w' h2
/-- a row of generations that begins empty. -/
structure EmpG (w Y : World) (g : Nat) : Prop where
  lo : w.heap.size ≤ g
  at' : Y.heap[g]? = some (.cells #[] 26 (0, 0))
  bl : Below w.heap.size w Y
theorem EmpG.one {w Z : World} (h : Below w.heap.size w Z) : EmpG w (Z.alloc (.cells #[] 26)) Z.heap.size := ⟨h.size, box_at _ _, h.alloc h.size _⟩
theorem EmpG.below {w Y Z : World} {g : Nat} (h : EmpG w Y g) (hb : Below Y.heap.size Y Z) : EmpG w Z g := ⟨h.lo, Below.stay hb h.at', h.bl.trans (hb.mono h.bl.size)⟩
theorem EmpG.drew {w Y : World} {g : Nat} (h : EmpG w Y g) : EmpG w Y.drew g := h.below ((Below.refl _ Y).drew)
theorem EmpG.alloc {w Y : World} {g : Nat} (h : EmpG w Y g) (o : Obj) : EmpG w (Y.alloc o) g := h.below ((Below.refl _ Y).alloc (Nat.le_refl _) o)
theorem EmpG.row {F : Nat → Prop} {w Y : World} {g base : Nat} (h : EmpG w Y g) (hb : base ≤ w.heap.size) : XGs F base Y (.slice (some ⟨g, 0, none⟩) 0 0) [] :=
  ⟨[], ⟨rfl, Or.inr ⟨g, 0, #[], rfl, Nat.le_trans hb h.lo, h.at', by simp [maxLen]⟩⟩, fun i e hi => by simp at hi⟩
theorem own_g {g n c k : Nat} (h : (Value.slice (some ⟨g, 0, none⟩) n c).ownBlock = some k) : k = g := by
  simp only [Value.ownBlock, Option.some.injEq] at h; exact h.symm
/-- what an append to an empty row leaves. -/
structure CatG (F : Nat → Prop) (base : Nat) (A Y : World) (g : Nat) (es : List Gn) (v : Value) (w' : World) : Prop where
  row : XGs F base w' v es
  bl : Below A.heap.size A w'
  own : ∀ k, v.ownBlock = some k → A.heap.size ≤ k
  kept : ∀ k o, Y.heap[k]? = some o → k ≠ g → w'.heap[k]? = some o
theorem cat_emp {F : Nat → Prop} {base b2 : Nat} {A Y : World} {g : Nat} (hE : EmpG A Y g) (hbase : base ≤ A.heap.size) (hF : ∀ k, F k → k < A.heap.size) (b N cap : Nat) (gs : List Gn) (hN : gs.length = N) (hl : N ≤ 1000) (hr : XGs F b2 Y (.slice (some ⟨b, 0, none⟩) N cap) gs) :
    ∃ v' w', (Builtin.append_ #[46, 46] 46 #[.slice (some ⟨g, 0, none⟩) 0 0, .slice (some ⟨b, 0, none⟩) N cap]).run Tryz.prog Y = .ok v' w' ∧ CatG F base A Y g gs v' w' := by
  have hlo := hE.lo
  obtain ⟨v', w', h1, h2, h3, h4⟩ := run_catG (hE.row (F := F) hbase) 46 b N cap gs hN hr (by simp; omega) (Nat.le_trans hbase hE.bl.size) (fun j hj hF' => by
    have h5 := own_g hj
    have h6 := hF j hF'
    omega)
  refine ⟨v', w', h1, by simpa using h2, hE.bl.grown h3 hE.bl.size (fun j hj => by have h5 := own_g hj; omega), fun k hk => ?_, fun k o hk hne => (h3.block k (heap_lt hk) (fun e => hne (own_g e.symm))).trans hk⟩
  rcases h4 with e | e
  · rw [e] at hk
    have h5 := own_g hk
    omega
  · rw [e] at hk; cases hk; exact hE.bl.size
def KeepAll (Y Z : World) : Prop := ∀ (k : Nat) (o : Obj), Y.heap[k]? = some o → Z.heap[k]? = some o
theorem EmpG.keep {w Y Z : World} {g : Nat} (h : EmpG w Y g) (hk : KeepAll Y Z) (hb : Below w.heap.size w Z) : EmpG w Z g := ⟨h.lo, hk _ _ h.at', hb⟩
theorem EmpG.two {w Z : World} (h : Below w.heap.size w Z) (o : Obj) : EmpG w ((Z.alloc o).alloc (.cells #[] 26)) (Z.heap.size + 1) := by
  have := EmpG.one (h.alloc h.size o)
  rwa [World.size_alloc] at this
theorem two_fst (Z : World) (a b : Obj) : ((Z.alloc a).alloc b).heap[Z.heap.size]? = some a := Below.stay ((Below.refl _ (Z.alloc a)).alloc (Nat.le_refl _) b) (box_at Z a)
theorem two_snd (Z : World) (a b : Obj) : ((Z.alloc a).alloc b).heap[Z.heap.size + 1]? = some b := by
  have := box_at (Z.alloc a) b
  rwa [World.size_alloc] at this
/-- what the second append leaves. -/
structure OneG (F : Nat → Prop) (base : Nat) (A : World) (p : Nat) (es : List Gn) (v : Value) (w' : World) : Prop where
  row : XGs F base w' v es
  bl : Below A.heap.size A w'
  own : ∀ k, v.ownBlock = some k → A.heap.size ≤ k
theorem one_row {F : Nat → Prop} {base : Nat} {A Y : World} {p nb : Nat} {v : Value} {gs : List Gn} (hr : XGs F base Y v gs) (hbl : Below A.heap.size A Y) (hown : ∀ k, v.ownBlock = some k → A.heap.size ≤ k) (hbase : base ≤ A.heap.size) (hF : ∀ k, F k → k < A.heap.size) (g : Gn) (oo mo : Option Addr) (oc m mc : Nat) (hx : Y.heap[nb]? = some (.cells #[.int .i64 g.n, .int .i64 g.eng, .int .i64 g.base, .slice oo 0 oc, .slice mo m mc] 26 (0, 0))) (hm : g.ms.length = m) (him : InF F A mo g.ms) (hml : m ≤ 1000) (hl : gs.length ≤ 1000) :
    ∃ v' w', (Builtin.append_ #[46, 46] 46 #[v, .slice (some ⟨nb, 0, none⟩) 1 1]).run Tryz.prog Y = .ok v' w' ∧ OneG F base A p (gs ++ [g]) v' w' := by
  obtain ⟨v', w', h1, h2, h3, h4⟩ := run_oneG hr 46 nb g oo mo oc m mc hx hm (him.below hbl) hml (by omega) (Nat.le_trans hbase hbl.size) (fun j hj hF' => by
    have h5 := hown j hj
    have h6 := hF j hF'
    omega)
  refine ⟨v', w', h1, h2, hbl.grown h3 hbl.size hown, fun k hk => ?_⟩
  rcases h4 with e | e
  · rw [e] at hk; exact hown k hk
  · rw [e] at hk; cases hk; exact hbl.size
end Go.Proofs.YtgllokinadjiaaaGreatDoor

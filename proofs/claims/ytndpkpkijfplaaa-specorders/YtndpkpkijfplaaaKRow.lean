/- Slices of numbers: what can be read, rows of the call's own, append. -/
import Derived.Test.YtndpkpkijfplaaaNBase
import Derived.Maps.AppendAt
import Derived.Deep.AppendSrc
import Derived.Deep.Upon
import Derived.Deep.QuietTactic
import Derived.BigQuiet
import Derived.Deep.DeepCutAuto
import Derived.Deep.CutBlock
import Derived.Deep.RegionWith
namespace Go.Proofs.Ytndpkpkijfplaaa
open Go.RowKit Go.Maps

theorem drewN_below (w : World) (k : Nat) : Below w.heap.size w (w.drewN k) := ⟨rfl, rfl, rfl, Nat.le_refl _, fun _ _ => rfl⟩
theorem Try.infoI : (Try.prog.info? 3).map (fun i => (i.zero, i.size, i.bytes)) = some (some (.int .i64 0), 1, 8) := by kernel_rfl
/-- a slice of numbers. -/
def IntsR (w : World) (ao : Option Addr) (ys : List Int) : Prop := ∀ i, i < ys.length → ∃ a, ao = some a ∧ w.cell? (a.add i) = some (.int .i64 (ys.getD i 0))
theorem IntsR.below {w w' : World} {ao : Option Addr} {ys : List Int} (h : IntsR w ao ys) (hb : Below w.heap.size w w') : IntsR w' ao ys := fun i hi => by
  obtain ⟨a, e, hc⟩ := h i hi
  exact ⟨a, e, by rw [hb.cell (blk_lt hc)]; exact hc⟩
theorem IntsR.nil (w : World) (ao : Option Addr) : IntsR w ao [] := fun i hi => by simp at hi
theorem IntsR.none_nil {w : World} {ys : List Int} (h : IntsR w none ys) : ys = [] := by
  cases ys with
  | nil => rfl
  | cons y ys => obtain ⟨a, e, _⟩ := h 0 (by simp); cases e
theorem ext_getD {xs ys : List Int} (h : xs.length = ys.length) (hj : ∀ j, j < xs.length → xs.getD j 0 = ys.getD j 0) : xs = ys := by
  apply List.ext_getElem h
  intro i h1 h2
  have := hj i h1
  rw [List.getD_eq_getElem?_getD, List.getD_eq_getElem?_getD, List.getElem?_eq_getElem h1, List.getElem?_eq_getElem h2] at this
  simpa using this
theorem drop_getD {xs : List Int} {k : Nat} (h : k < xs.length) : xs.drop k = xs.getD k 0 :: xs.drop (k + 1) := by
  rw [List.drop_eq_getElem_cons h, List.getD_eq_getElem?_getD, List.getElem?_eq_getElem h]; rfl
theorem mem_getD {xs : List Int} {k : Nat} (h : k < xs.length) : xs.getD k 0 ∈ xs := by
  rw [List.getD_eq_getElem?_getD, List.getElem?_eq_getElem h]; exact List.getElem_mem h

/-! ### such as the library's contracts speak of: no element of an array within a struct -/
def Fr (w : World) (ao : Option Addr) (ys : List Int) : Prop := IntsR w ao ys ∧ ∀ a, ao = some a → ∃ b off, a = ⟨b, off, none⟩
theorem Fr.below {w w' : World} {ao : Option Addr} {ys : List Int} (h : Fr w ao ys) (hb : Below w.heap.size w w') : Fr w' ao ys := ⟨h.1.below hb, h.2⟩
theorem Fr.take {w : World} {ao : Option Addr} {ys : List Int} (h : Fr w ao ys) (n : Nat) : Fr w ao (ys.take n) := by
  refine ⟨fun i hi => ?_, h.2⟩
  rw [List.length_take] at hi
  obtain ⟨a, e, hc⟩ := h.1 i (by omega)
  refine ⟨a, e, ?_⟩
  rw [hc, List.getD_eq_getElem?_getD, List.getD_eq_getElem?_getD, List.getElem?_take_of_lt (by omega)]
theorem Fr.at {w : World} {ao : Option Addr} {ys : List Int} (h : Fr w ao ys) : ys = [] ∨ ∃ b off, ao = some ⟨b, off, none⟩ ∧ ∀ j, j < ys.length → w.cell? ⟨b, off + j, none⟩ = some (.int .i64 (ys.getD j 0)) := by
  by_cases hy : ys = []
  · exact Or.inl hy
  · right
    have h0 : 0 < ys.length := List.length_pos_iff.2 hy
    obtain ⟨a, rfl, _⟩ := h.1 0 h0
    obtain ⟨b, off, rfl⟩ := h.2 a rfl
    refine ⟨b, off, rfl, fun j hj => ?_⟩
    obtain ⟨a', e, hc⟩ := h.1 j hj
    cases e
    rw [Addr.add_lit] at hc; exact hc

/-! ### rows of the call's own -/
def i64s (ys : List Int) : List Value := ys.map (Value.int .i64)
theorem i64s_append (xs ys : List Int) : i64s (xs ++ ys) = i64s xs ++ i64s ys := by simp [i64s]
theorem i64s_one (ys : List Int) : ∀ u ∈ i64s ys, u.oneCell' = true := fun u hu => by
  simp only [i64s, List.mem_map] at hu; obtain ⟨y, _, rfl⟩ := hu; rfl
/-- v is a row of the call's own, of the numbers ys. -/
def Ir (base : Nat) (w : World) (v : Value) (ys : List Int) : Prop := w.ownsRow base 3 1 v ys.length (i64s ys)
theorem Ir.below {base : Nat} {w w' : World} {v : Value} {ys : List Int} (h : Ir base w v ys) (hb : Below w.heap.size w w') : Ir base w' v ys := own_below h hb
theorem Ir.nil (base : Nat) (w : World) : Ir base w (.slice none 0 0) [] := ⟨by simp [i64s], Or.inl ⟨rfl, rfl⟩⟩
theorem Ir.slice {base : Nat} {w : World} {v : Value} {ys : List Int} (h : Ir base w v ys) : ∃ ao cap, v = .slice ao ys.length cap ∧ Fr w ao ys ∧ ys.length ≤ cap ∧ cap ≤ maxLen := by
  rcases h.2 with ⟨rfl, h0⟩ | ⟨g, cap, cur, rfl, hb, hh, hc, hm, hs, ht⟩
  · have : ys = [] := List.eq_nil_of_length_eq_zero h0
    subst this
    exact ⟨none, 0, rfl, ⟨IntsR.nil _ _, fun a ha => by cases ha⟩, Nat.le_refl _, by decide⟩
  · refine ⟨_, cap, rfl, ⟨fun i hi => ⟨_, rfl, ?_⟩, fun a ha => ⟨g, 0, by cases ha; rfl⟩⟩, hc, hm⟩
    refine World.ownsRow.cells h (g := g) rfl i _ ?_
    rw [i64s, List.getElem?_map, List.getElem?_eq_getElem hi, List.getD_eq_getElem?_getD, List.getElem?_eq_getElem hi]; rfl
/-- append: the source may be nil; an operation's law. -/
theorem wpList_app {w : World} {ops : Array Oper} {rest : List Oper} {o : Oper} {a : Act} {Q : Exit → Act → World → Prop} (hgd : o.guard = none) (s x : Operand)
    (ho : o.op = .call { callee := .builtin .append, args := #[s, x], argTypes := #[27, 27] }) (base : Nat) (v : Value) (xs : List Int) (hs : a.eval s = v) (hown : Ir base w v xs)
    (ao : Option Addr) (m c : Nat) (ys : List Int) (hx : a.eval x = .slice ao m c) (hm : ys.length = m) (hy : IntsR w ao ys) (hl : xs.length + m ≤ 1000000000) (hb : base ≤ w.heap.size)
    (h : ∀ v' w', Ir base w' v' (xs ++ ys) → w.grownBy w' v.ownBlock → wpList Try.prog ops Q rest (a.put o.dst v') w') : wpList Try.prog ops Q (o :: rest) a w := by
  obtain ⟨i0, hi0, hz0, hz1, hz2⟩ := info_parts Try.infoI
  refine wpList_plain hgd fun K hK => ?_
  have key : ∃ v' w', (Builtin.append_ #[27, 27] o.type #[v, .slice ao m c]).run Try.prog w = .ok v' w' ∧ Ir base w' v' (xs ++ ys) ∧ w.grownBy w' v.ownBlock := by
    cases ao with
    | none =>
      obtain rfl := hy.none_nil
      simp only [List.length_nil] at hm
      subst hm
      obtain ⟨av, cv, rfl, _, hc, _⟩ := hown.slice
      have hr := run_append_nothing (P := Try.prog) w 27 27 o.type 3 i0 Try.underlying27 hi0 av xs.length cv hc (.slice none 0 c) (Src.ofNil w Try.underlying27 c)
      exact ⟨_, _, hr, by simpa using hown, ⟨rfl, rfl, rfl, Nat.le_refl _, fun _ _ _ => rfl⟩⟩
    | some ad =>
      obtain ⟨v', w', hr, o', g', _⟩ := run_append_own_at (P := Try.prog) w base 27 o.type 3 i0 _ 1 8 Try.underlying27 hi0 hz0 hz1 hz2 rfl (by decide) v xs.length (i64s xs) hown ad m c (i64s ys) (by rw [i64s, List.length_map, hm]; omega)
        (fun j u hj => by
          rw [i64s, List.getElem?_map] at hj
          cases hq : ys[j]? with
          | none => rw [hq] at hj; simp at hj
          | some y =>
            rw [hq] at hj; simp at hj; subst hj
            obtain ⟨a, e, hcell⟩ := hy j (List.getElem?_eq_some_iff.1 hq).1
            cases e
            rw [hcell, List.getD_eq_getElem?_getD, hq]; rfl)
        (i64s_one ys) (by unfold maxLen; omega) (by omega) hb
      refine ⟨v', w', hr, ?_, g'⟩
      unfold Ir
      rw [List.length_append, hm, i64s_append]; exact o'
  obtain ⟨v', w', hr, h1, h2⟩ := key
  unfold Oper.wp execOp
  simp only [ho, resolve, invoke, builtin, Sem.run_bind, Sem.run_pure, Result.andThen_ok, List.map_toArray, List.map_cons, List.map_nil, hs, hx, hr]
  exact hK _ _ (h v' w' h1 h2)
theorem Ir.grown {base : Nat} {a w w' : World} {v : Value} {xs : List Int} (h : Ir base w v xs) (hg : w.grownBy w' v.ownBlock) (hb : Below base a w) (hbb : base ≤ w.heap.size) : Below base a w' :=
  hb.grown hg hbb (fun k hk => (h.lt k hk).1)
end Go.Proofs.Ytndpkpkijfplaaa

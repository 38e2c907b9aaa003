/- Arguments: what slices of marks and of votes hold. -/
import Derived.Test.YtjcidihcmbenhaaKArgs
import Derived.Test.YtjcidihcmbenhaaYMap
namespace Go.Proofs.Ytjcidihcmbenhaa
open Go.ChangeShapes Go.WideShapes Go.ChangeAt Go.RowKit

theorem Try.cellsM : Try.prog.cellsOf 30 = 2 := by kernel_rfl
theorem Try.cellsVo : Try.prog.cellsOf 44 = 2 := by kernel_rfl
theorem Try.cellsBo : Try.prog.cellsOf 4 = 1 := by kernel_rfl
theorem plain_addr {w : World} {a : Addr} {i : Nat} {u : Value} (h : w.cell? (a.add (0 * i)) = some u) : ∃ g off, a = ⟨g, off, none⟩ := by
  obtain ⟨g, off, spot⟩ := a
  have : spot = none := by simpa [Addr.add] using World.cell?_spot h
  subst this
  exact ⟨g, off, rfl⟩
theorem collect {α : Type} (d : α) (n : Nat) (P : Nat → α → Prop) (h : ∀ i, i < n → ∃ p, P i p) : ∃ l : List α, l.length = n ∧ ∀ i, i < n → P i (l.getD i d) := by
  induction n with
  | zero => exact ⟨[], rfl, fun i hi => by omega⟩
  | succ n ih =>
    obtain ⟨l, hl, hp⟩ := ih (fun i hi => h i (by omega))
    obtain ⟨p, hpp⟩ := h n (by omega)
    refine ⟨l ++ [p], by simp [hl], fun i hi => ?_⟩
    by_cases e : i < n
    · rw [List.getD_eq_getElem?_getD, List.getElem?_append_left (by omega), ← List.getD_eq_getElem?_getD]; exact hp i e
    · obtain rfl : i = n := by omega
      rw [List.getD_eq_getElem?_getD, List.getElem?_append_right (by omega), hl, Nat.sub_self]; exact hpp

set_option maxRecDepth 100000 in
theorem marks_open {H : Type} {enc : TypeId × Value → H} {W : World} {base : Nat} {v : Value} {d : DataW H} {p : List MemPlace} (hv : Value.okWide Try.prog W .any base 22 v)
    (h : DataW.Trod enc Try.prog W 0 (fun _ => true) true 22 v d p) : ∃ ao n cap ms, v = .slice ao n cap ∧ ms.length = n ∧ n ≤ maxLen ∧ MkR W ao ms ∧ Wfs ms := by
  obtain ⟨a0, len0, cap0, rfl⟩ := okWide_slice Try.underlying22 hv
  obtain ⟨fuel, hf⟩ := h
  rcases DataW.trod_slice Try.underlying22 hf with ⟨hcs, _⟩ | ⟨a, len, cap, elems, rest, n, _, hcs, _, _, hl, hm, hel, hx, _⟩
  · simp [Value.cells] at hcs
    obtain ⟨rfl, rfl, rfl⟩ := hcs
    exact ⟨none, 0, 0, [], rfl, rfl, by decide, fun i hi => by simp at hi, fun m hm => by simp at hm⟩
  · simp [Value.cells] at hcs
    obtain ⟨rfl, rfl, rfl⟩ := hcs
    have key : ∀ i, i < len0 → ∃ q : Int × Int, W.cell? (a.add (i * 2)) = some (.int .i64 q.1) ∧ W.cell? (a.add (i * 2 + 1)) = some (.int .i64 q.2) ∧ wf64 q.1 ∧ wf64 q.2 := fun i hi => by
      have hi' := hx i hi
      rw [List.getElem?_eq_getElem (by omega), Try.cellsM] at hi'
      obtain ⟨cs, hc, ht⟩ := Option.bind_eq_some_iff.1 hi'
      obtain ⟨_, hlen, hcell⟩ := World.cells?_some hc
      obtain ⟨xs, m, _, _, hl5, hlx, hfi⟩ := DataW.trod_struct Try.underlying30 ht
      rw [Try.cellsM] at hl5
      match cs, hl5, xs, hlx with
      | [c0, c1], _, [y0, y1], _ =>
        have f0 := hfi 0 _ rfl
        have f1 := hfi 1 _ rfl
        simp [Try.cells3] at f0 f1
        obtain ⟨k0, e0, z0⟩ := DataW.trod_int Try.underlying3 f0
        obtain ⟨k1, e1, z1⟩ := DataW.trod_int Try.underlying3 f1
        simp only [List.cons.injEq, and_true] at e0 e1
        subst e0 e1
        have d0 := hcell 0 (by omega)
        have d1 := hcell 1 (by omega)
        rw [Addr.add_add] at d0 d1
        exact ⟨(k0, k1), by simpa using d0, by simpa using d1, z0.2, z1.2⟩
    obtain ⟨ms, hml, hmp⟩ := collect (0, 0) len0 _ key
    refine ⟨some a, len0, cap0, ms, rfl, hml, by omega, fun i hi => ?_, fun m hm => ?_⟩
    · obtain ⟨g, off, rfl⟩ := plain_addr (i := 2) (hmp 0 (by omega)).1
      obtain ⟨h1, h2, _, _⟩ := hmp i (by omega)
      rw [Addr.add_lit] at h1 h2
      exact ⟨g, off, rfl, h1, by rw [Nat.add_assoc]; exact h2⟩
    · obtain ⟨i, hi, rfl⟩ := List.mem_iff_getElem.1 hm
      obtain ⟨_, _, h3, h4⟩ := hmp i (by omega)
      rw [List.getD_eq_getElem?_getD, List.getElem?_eq_getElem hi] at h3 h4
      exact ⟨h3, h4⟩

/-- a slice of votes. -/
def VoR (w : World) (ao : Option Addr) (vs : List (Int × Bool)) : Prop :=
  ∀ i, i < vs.length → ∃ g off, ao = some ⟨g, off, none⟩ ∧ w.cell? ⟨g, off + i * 2, none⟩ = some (.int .i64 (vs.getD i (0, false)).1) ∧ w.cell? ⟨g, off + i * 2 + 1, none⟩ = some (.bool (vs.getD i (0, false)).2)
theorem VoR.below {w w' : World} {ao : Option Addr} {vs : List (Int × Bool)} (h : VoR w ao vs) (hb : Below w.heap.size w w') : VoR w' ao vs := fun i hi => by
  obtain ⟨g, off, e, h1, h2⟩ := h i hi
  exact ⟨g, off, e, by rw [hb.cell (blk_lt h1)]; exact h1, by rw [hb.cell (blk_lt h2)]; exact h2⟩
set_option maxRecDepth 100000 in
theorem votes_open {H : Type} {enc : TypeId × Value → H} {W : World} {base : Nat} {v : Value} {d : DataW H} {p : List MemPlace} (hv : Value.okWide Try.prog W .any base 36 v)
    (h : DataW.Trod enc Try.prog W 0 (fun _ => true) true 36 v d p) : ∃ ao n cap vs, v = .slice ao n cap ∧ vs.length = n ∧ n ≤ maxLen ∧ VoR W ao vs ∧ ∀ m ∈ vs, wf64 m.1 := by
  obtain ⟨a0, len0, cap0, rfl⟩ := okWide_slice Try.underlying36 hv
  obtain ⟨fuel, hf⟩ := h
  rcases DataW.trod_slice Try.underlying36 hf with ⟨hcs, _⟩ | ⟨a, len, cap, elems, rest, n, _, hcs, _, _, hl, hm, hel, hx, _⟩
  · simp [Value.cells] at hcs
    obtain ⟨rfl, rfl, rfl⟩ := hcs
    exact ⟨none, 0, 0, [], rfl, rfl, by decide, fun i hi => by simp at hi, fun m hm => by simp at hm⟩
  · simp [Value.cells] at hcs
    obtain ⟨rfl, rfl, rfl⟩ := hcs
    have key : ∀ i, i < len0 → ∃ q : Int × Bool, W.cell? (a.add (i * 2)) = some (.int .i64 q.1) ∧ W.cell? (a.add (i * 2 + 1)) = some (.bool q.2) ∧ wf64 q.1 := fun i hi => by
      have hi' := hx i hi
      rw [List.getElem?_eq_getElem (by omega), Try.cellsVo] at hi'
      obtain ⟨cs, hc, ht⟩ := Option.bind_eq_some_iff.1 hi'
      obtain ⟨_, hlen, hcell⟩ := World.cells?_some hc
      obtain ⟨xs, m, _, _, hl5, hlx, hfi⟩ := DataW.trod_struct Try.underlying44 ht
      rw [Try.cellsVo] at hl5
      match cs, hl5, xs, hlx with
      | [c0, c1], _, [y0, y1], _ =>
        have f0 := hfi 0 _ rfl
        have f1 := hfi 1 _ rfl
        simp [Try.cells3, Try.cellsBo] at f0 f1
        obtain ⟨k0, e0, z0⟩ := DataW.trod_int Try.underlying3 f0
        obtain ⟨k1, e1, _⟩ := DataW.trod_bool Try.underlying4 f1
        simp only [List.cons.injEq, and_true] at e0 e1
        subst e0 e1
        have d0 := hcell 0 (by omega)
        have d1 := hcell 1 (by omega)
        rw [Addr.add_add] at d0 d1
        exact ⟨(k0, k1), by simpa using d0, by simpa using d1, z0.2⟩
    obtain ⟨ms, hml, hmp⟩ := collect (0, false) len0 _ key
    refine ⟨some a, len0, cap0, ms, rfl, hml, by omega, fun i hi => ?_, fun m hm => ?_⟩
    · obtain ⟨g, off, rfl⟩ := plain_addr (i := 2) (hmp 0 (by omega)).1
      obtain ⟨h1, h2, _⟩ := hmp i (by omega)
      rw [Addr.add_lit] at h1 h2
      exact ⟨g, off, rfl, h1, by rw [Nat.add_assoc]; exact h2⟩
    · obtain ⟨i, hi, rfl⟩ := List.mem_iff_getElem.1 hm
      obtain ⟨_, _, h3⟩ := hmp i (by omega)
      rw [List.getD_eq_getElem?_getD, List.getElem?_eq_getElem hi] at h3
      exact h3
end Go.Proofs.Ytjcidihcmbenhaa

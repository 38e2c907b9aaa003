/- The reference's acceptor in memory: rows of votes whose members came in. -/
import Derived.Test.YtijohafalcifpaaVRisA
namespace Go.Proofs.Ytijohafalcifpaa
open Go.RowKit Go.Maps

/-- a row of votes of the call's own; their members lie below. -/
def VRowL (T : TypeId) (low base : Nat) (w : World) (rv : Value) (vs : List Vt) : Prop :=
  ∃ xs, w.ownsRow base T 8 rv vs.length xs ∧ ∀ (i : Nat) (v : Vt), vs[i]? = some v → ∃ mo mc, (∀ (j : Nat) (u : Value), (v.cells (.slice mo v.e.ms.length mc))[j]? = some u → xs[i * 8 + j]? = some u) ∧ InF (fun k => k < low) w mo v.e.ms ∧ v.e.ms.length ≤ 1000000
def VsL (low : Nat) (w : World) (ao : Option Addr) (vs : List Vt) : Prop :=
  ∀ (i : Nat) (v : Vt), vs[i]? = some v → ∃ g off mo mc, ao = some ⟨g, off, none⟩ ∧ (∀ (j : Nat) (u : Value), (v.cells (.slice mo v.e.ms.length mc))[j]? = some u → w.cell? ⟨g, off + i * 8 + j, none⟩ = some u) ∧ InF (fun k => k < low) w mo v.e.ms ∧ v.e.ms.length ≤ 1000000
theorem VRowL.row {T : TypeId} {low base : Nat} {w : World} {rv : Value} {vs : List Vt} (h : VRowL T low base w rv vs) : VRow T low base w rv vs := by
  obtain ⟨xs, h1, h2⟩ := h
  refine ⟨xs, h1, fun i v hi => ?_⟩
  obtain ⟨mo, mc, k1, k2, k3⟩ := h2 i v hi
  exact ⟨mo, mc, k1, Or.inr k2, k3⟩
theorem VRowL.nil (T : TypeId) (low base : Nat) (w : World) : VRowL T low base w (.slice none 0 0) [] := ⟨[], ⟨rfl, Or.inl ⟨rfl, rfl⟩⟩, fun i r hi => by simp at hi⟩
theorem VRowL.below {T : TypeId} {low base : Nat} {w w' : World} {rv : Value} {vs : List Vt} (h : VRowL T low base w rv vs) (hb : Below w.heap.size w w') : VRowL T low base w' rv vs := by
  obtain ⟨xs, h1, h3⟩ := h
  refine ⟨xs, own_below h1 hb, fun i r hr => ?_⟩
  obtain ⟨mo, mc, k1, k2, k4⟩ := h3 i r hr
  exact ⟨mo, mc, k1, k2.below hb, k4⟩
theorem VRowL.far {T : TypeId} {low base : Nat} {ts : List TypeId} {D : Nat → Prop} {w w' : World} {rv : Value} {vs : List Vt} (h : VRowL T low base w rv vs) (hk : Kp D w w') (hf : Far low ts w D) (ht : T ∈ ts) : VRowL T low base w' rv vs := by
  obtain ⟨xs, h1, h3⟩ := h
  refine ⟨xs, own_far h1 hk hf ht, fun i r hr => ?_⟩
  obtain ⟨mo, mc, k1, k2, k4⟩ := h3 i r hr
  exact ⟨mo, mc, k1, k2.far hk hf, k4⟩
theorem VRowL.mono {T : TypeId} {low base base' : Nat} {w : World} {rv : Value} {vs : List Vt} (h : VRowL T low base w rv vs) (hb : base' ≤ base) : VRowL T low base' w rv vs := by
  obtain ⟨xs, h1, h3⟩ := h
  exact ⟨xs, own_mono h1 hb, h3⟩
theorem VRowL.vsL {T : TypeId} {low base : Nat} {w : World} {ao : Option Addr} {n cap : Nat} {vs : List Vt} (h : VRowL T low base w (.slice ao n cap) vs) : VsL low w ao vs := fun i v hi => by
  obtain ⟨xs, h1, h2⟩ := h
  obtain ⟨mo, mc, k1, k2, k4⟩ := h2 i v hi
  rcases h1.2 with ⟨e1, e2⟩ | ⟨g, cap', cur, e1, e2, e3, _⟩
  · have := (List.getElem?_eq_some_iff.1 hi).1; omega
  · obtain rfl : ao = some ⟨g, 0, none⟩ := by simp only [Value.slice.injEq] at e1; exact e1.1
    refine ⟨g, 0, mo, mc, rfl, fun j u hj => ?_, k2, k4⟩
    have := World.ownsRow.cells (by rw [e1] at h1; exact h1) (g := g) rfl (i * 8 + j) u (k1 j u hj)
    rw [Addr.add_lit] at this
    rw [Nat.add_assoc]; exact this
theorem VsL.vsR {low : Nat} {w : World} {ao : Option Addr} {vs : List Vt} (h : VsL low w ao vs) (base : Nat) : VsR low base w ao vs := fun i v hi => by
  obtain ⟨g, off, mo, mc, h1, h2, h3, h4⟩ := h i v hi
  exact ⟨g, off, mo, mc, h1, h2, Or.inr h3, h4⟩
theorem VsL.below {low : Nat} {w w' : World} {ao : Option Addr} {vs : List Vt} (h : VsL low w ao vs) (hb : Below w.heap.size w w') : VsL low w' ao vs := fun i v hi => by
  obtain ⟨g, off, mo, mc, h1, h3, h4, h5⟩ := h i v hi
  exact ⟨g, off, mo, mc, h1, fun j u hj => by rw [hb.cell (blk_lt (h3 j u hj))]; exact h3 j u hj, h4.below hb, h5⟩
theorem VsL.take {low : Nat} {w : World} {ao : Option Addr} {vs : List Vt} (h : VsL low w ao vs) (n : Nat) : VsL low w ao (vs.take n) := fun i v hi => by
  rw [List.getElem?_take] at hi
  split at hi
  · exact h i v hi
  · cases hi
theorem VsL.drop {low : Nat} {w : World} {g off : Nat} {vs : List Vt} (h : VsL low w (some ⟨g, off, none⟩) vs) (n : Nat) : VsL low w (some ⟨g, off + n * 8, none⟩) (vs.drop n) := fun i v hi => by
  rw [List.getElem?_drop] at hi
  obtain ⟨g', off', mo, mc, h1, h3, h4, h5⟩ := h (n + i) v hi
  cases h1
  refine ⟨g, _, mo, mc, rfl, fun j u hj => ?_, h4, h5⟩
  have := h3 j u hj
  rwa [show off + n * 8 + i * 8 + j = off + (n + i) * 8 + j by omega]
theorem VsL.one {low : Nat} {w : World} {nb : Nat} {v : Vt} {mo : Option Addr} {mc : Nat} {T : TypeId} (hx : w.heap[nb]? = some (.cells (v.cells (.slice mo v.e.ms.length mc)).toArray T (0, 0))) (hm : InF (fun k => k < low) w mo v.e.ms) (hl : v.e.ms.length ≤ 1000000) : VsL low w (some ⟨nb, 0, none⟩) [v] := fun i u hi => by
  have hi0 : i = 0 := by have := (List.getElem?_eq_some_iff.1 hi).1; simp at this; omega
  subst hi0
  simp at hi; subst hi
  refine ⟨nb, 0, mo, mc, rfl, fun j x hj => ?_, hm, hl⟩
  rw [cell_of_block hx]
  simpa using hj
/-- members that lie below, told of a row that was read so. -/
theorem VRow.rowL {T : TypeId} {low base : Nat} {w : World} {rv : Value} {vs : List Vt} (h : VRow T low base w rv vs) (hb : ∀ k, ¬ (base ≤ k ∧ k < w.heap.size ∧ ∃ cur fr, w.heap[k]? = some (.cells cur 3 fr))) : VRowL T low base w rv vs := by
  obtain ⟨xs, h1, h2⟩ := h
  refine ⟨xs, h1, fun i v hi => ?_⟩
  obtain ⟨mo, mc, k1, k2, k3⟩ := h2 i v hi
  refine ⟨mo, mc, k1, ?_, k3⟩
  rcases k2 with k2 | k2
  · rcases k2.2 with ⟨e1, e2⟩ | ⟨g, cap, cur, e1, e2, e3, _⟩
    · have : v.e.ms = [] := List.eq_nil_of_length_eq_zero e2
      rw [this]; exact InF.nil _ _ _
    · exact absurd ⟨e2, heap_lt e3, cur, _, e3⟩ (hb g)
  · exact k2
/-- append of votes whose members lie below. -/
theorem run_appL {T ts : TypeId} (hu : Try.prog.underlying ts = some (.slice T)) (hT : T ≠ 3) (hz : (Try.prog.info? T).map (fun i => (i.zero, i.size, i.bytes)) = some (some zvote, 8, 88)) {low base : Nat} (hlb : low ≤ base) {w : World} {v : Value} {vs : List Vt} (h : VRowL T low base w v vs)
    (ty : TypeId) (ao : Option Addr) (m c : Nat) (us : List Vt) (hm : us.length = m) (hs : VsL low w ao us) (hl : vs.length + m ≤ 1000000) (hb : base ≤ w.heap.size) :
    ∃ v' w', (Builtin.append_ #[ts, ts] ty #[v, .slice ao m c]).run Try.prog w = .ok v' w' ∧ VRowL T low base w' v' (vs ++ us) ∧ w.grownBy w' v.ownBlock := by
  obtain ⟨i0, hi0, hz0, hz1, hz2⟩ := info_parts hz
  cases ao with
  | none =>
    obtain rfl := (hs.vsR 0).none_nil
    simp only [List.length_nil] at hm
    subst hm
    obtain ⟨av, cv, rfl, hc, _⟩ := h.row.slice
    have hr := run_append_nothing (P := Try.prog) w ts ts ty T i0 hu hi0 av vs.length cv hc (.slice none 0 c) (Src.ofNil w hu c)
    exact ⟨_, _, hr, by simpa using h, ⟨rfl, rfl, rfl, Nat.le_refl _, fun _ _ _ => rfl⟩⟩
  | some ad =>
    -- the members, told once for all places
    have hc : ∀ i : Nat, ∃ m : Option Addr × Nat, ∀ v : Vt, us[i]? = some v → ∃ g off, ad = ⟨g, off, none⟩ ∧ (∀ (j : Nat) (u : Value), (v.cells (.slice m.1 v.e.ms.length m.2))[j]? = some u → w.cell? ⟨g, off + i * 8 + j, none⟩ = some u) ∧ InF (fun k => k < low) w m.1 v.e.ms ∧ v.e.ms.length ≤ 1000000 := fun i => by
      cases hv : us[i]? with
      | none => exact ⟨(none, 0), fun v h => by cases h⟩
      | some v =>
        obtain ⟨g, off, mo, mc, h1, h3, h4, h5⟩ := hs i v hv
        refine ⟨(mo, mc), fun v' hv' => ?_⟩
        cases hv'
        exact ⟨g, off, by simpa using h1, h3, h4, h5⟩
    obtain ⟨fm, hfm⟩ := Classical.axiomOfChoice hc
    obtain ⟨xs, h1, h3⟩ := h
    have hml : us.length = ((List.range us.length).map fm).length := by simp
    have hcl : (vcells us ((List.range us.length).map fm)).length = m * 8 := by rw [vcells_len us _ hml, hm]
    have hat : ∀ (i : Nat) (x : Option Addr × Nat), i < us.length → ((List.range us.length).map fm)[i]? = some x → x = fm i := fun i x hi hx => by
      rw [List.getElem?_map, List.getElem?_range hi] at hx
      simp at hx; exact hx.symm
    have hcells : ∀ (q : Nat) (u : Value), (vcells us ((List.range us.length).map fm))[q]? = some u → w.cell? (ad.add q) = some u := fun q u hq => by
      obtain ⟨i, j, v, m, rfl, k1, k2, k3⟩ := vcells_inv us _ q u hq
      have hi := (List.getElem?_eq_some_iff.1 k1).1
      obtain rfl := hat i m hi k2
      obtain ⟨g, off, rfl, hcell, _⟩ := hfm i v k1
      rw [Addr.add_lit, ← Nat.add_assoc]; exact hcell j u k3
    obtain ⟨v', w', hr, o', g', _⟩ := run_append_own_at (P := Try.prog) w base ts ty T i0 _ 8 88 hu hi0 hz0 hz1 hz2 rfl (by decide) v vs.length xs h1 ad m c (vcells us ((List.range us.length).map fm)) (by rw [hcl]) hcells (vcells_one us _) (by unfold maxLen; omega) (by omega) hb
    have hF : Far low [3] w (fun k => v.ownBlock = some k) := Far.grown h1 hlb (by simpa using hT)
    have hK := Kp.of_grown g'
    have hxl : xs.length = vs.length * 8 := h1.1
    refine ⟨v', w', hr, ⟨_, by rw [List.length_append, hm]; exact o', fun i q hq => ?_⟩, g'⟩
    by_cases he : i < vs.length
    · rw [List.getElem?_append_left he] at hq
      obtain ⟨mo, mc, u1, u2, u4⟩ := h3 i q hq
      refine ⟨mo, mc, fun j x hj => ?_, u2.far hK hF, u4⟩
      have hj8 : j < 8 := (List.getElem?_eq_some_iff.1 hj).1
      rw [List.getElem?_append_left (by omega)]; exact u1 j x hj
    · rw [List.getElem?_append_right (by omega)] at hq
      have hlt := (List.getElem?_eq_some_iff.1 hq).1
      obtain ⟨g, off, _, _, k1, k2⟩ := hfm _ _ hq
      refine ⟨(fm (i - vs.length)).1, (fm (i - vs.length)).2, fun j x hj => ?_, k1.far hK hF, k2⟩
      have hle : vs.length ≤ i := by omega
      rw [List.getElem?_append_right (by omega), show i * 8 + j - xs.length = (i - vs.length) * 8 + j by omega]
      exact vcells_at us _ _ _ _ hq (by rw [List.getElem?_map, List.getElem?_range hlt]; rfl) j x hj
theorem wpList_appL {T ts : TypeId} (hu : Try.prog.underlying ts = some (.slice T)) (hT : T ≠ 3) (hz : (Try.prog.info? T).map (fun i => (i.zero, i.size, i.bytes)) = some (some zvote, 8, 88)) {w : World} {ops : Array Oper} {rest : List Oper} {o : Oper} {a : Act} {Q : Exit → Act → World → Prop} (hgd : o.guard = none) (s x : Operand)
    (ho : o.op = .call { callee := .builtin .append, args := #[s, x], argTypes := #[ts, ts] }) (low base : Nat) (hlb : low ≤ base) (v : Value) (vs : List Vt) (hs : a.eval s = v) (h : VRowL T low base w v vs)
    (ao : Option Addr) (m c : Nat) (us : List Vt) (hx : a.eval x = .slice ao m c) (hm : us.length = m) (hr : VsL low w ao us) (hl : vs.length + m ≤ 1000000) (hb : base ≤ w.heap.size)
    (hk : ∀ v' w', VRowL T low base w' v' (vs ++ us) → w.grownBy w' v.ownBlock → wpList Try.prog ops Q rest (a.put o.dst v') w') : wpList Try.prog ops Q (o :: rest) a w := by
  refine wpList_plain hgd fun K hK => ?_
  obtain ⟨v', w', hrun, h1, h2⟩ := run_appL hu hT hz hlb h o.type ao m c us hm hr hl hb
  unfold Oper.wp execOp
  simp only [ho, resolve, invoke, builtin, Sem.run_bind, Sem.run_pure, Result.andThen_ok, List.map_toArray, List.map_cons, List.map_nil, hs, hx, hrun]
  exact hK _ _ (hk v' w' h1 h2)
/-- the reference's acceptor. -/
structure Xa (low base : Nat) (w : World) (x : Nat) (P : Int) (f : Vf) : Prop where
  box : ∃ rv, w.heap[x]? = some (.cells #[.int .i64 P, rv] 29 (0, 0)) ∧ VRowL 55 low base w rv (allOf f)
theorem Xa.below {low base : Nat} {w w' : World} {x : Nat} {P : Int} {f : Vf} (h : Xa low base w x P f) (hb : Below w.heap.size w w') : Xa low base w' x P f := by
  obtain ⟨rv, h1, h2⟩ := h.box
  exact ⟨rv, Below.stay hb h1, h2.below hb⟩
theorem Xa.far {low base : Nat} {D : Nat → Prop} {w w' : World} {x : Nat} {P : Int} {f : Vf} (h : Xa low base w x P f) (hk : Kp D w w') (hf : Far low [3, 55, 29] w D) : Xa low base w' x P f := by
  obtain ⟨rv, h1, h2⟩ := h.box
  exact ⟨rv, hk.block h1 (fun hd => (hf x hd (heap_lt h1)).2 _ _ _ h1 (by simp)), h2.far hk hf (by simp)⟩
theorem filter_take {l : List Vt} {p : Vt → Bool} {k : Nat} {v : Vt} (h : l[k]? = some v) : (l.take (k + 1)).filter p = (l.take k).filter p ++ if p v then [v] else [] := by
  rw [List.take_add_one, h]
  simp only [Option.toList, List.filter_append, List.filter_cons, List.filter_nil]
end Go.Proofs.Ytijohafalcifpaa

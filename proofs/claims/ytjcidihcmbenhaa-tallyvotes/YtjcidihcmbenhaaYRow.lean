/- Rows of marks of the call's own; synodallaw9's known, within: contracts. -/
import Derived.Test.YtjcidihcmbenhaaYReach2
namespace Go.Proofs.Ytjcidihcmbenhaa
open Go.RowKit Go.Maps

def flat2 (ms : List (Int × Int)) : List Value := ms.flatMap fun m => [.int .i64 m.1, .int .i64 m.2]
theorem flat2_len (ms : List (Int × Int)) : (flat2 ms).length = ms.length * 2 := by
  induction ms with
  | nil => rfl
  | cons m ms ih =>
    show ([Value.int .i64 m.1, Value.int .i64 m.2] ++ flat2 ms).length = _
    rw [List.length_append, ih, List.length_cons]; simp; omega
theorem flat2_append (xs ys : List (Int × Int)) : flat2 (xs ++ ys) = flat2 xs ++ flat2 ys := by simp [flat2]
theorem flat2_get : ∀ (ms : List (Int × Int)) (i : Nat), i < ms.length → (flat2 ms)[i * 2]? = some (.int .i64 (ms.getD i (0, 0)).1) ∧ (flat2 ms)[i * 2 + 1]? = some (.int .i64 (ms.getD i (0, 0)).2)
  | [], i, h => by simp at h
  | x :: ms, 0, _ => ⟨rfl, rfl⟩
  | x :: ms, i + 1, h => by
    have := flat2_get ms i (by simpa using h)
    have e : flat2 (x :: ms) = Value.int .i64 x.1 :: Value.int .i64 x.2 :: flat2 ms := rfl
    rw [e, show (i + 1) * 2 = i * 2 + 1 + 1 by omega]
    exact this
theorem flat2_one (ms : List (Int × Int)) : ∀ u ∈ flat2 ms, u.oneCell' = true := by
  intro u hu
  simp only [flat2, List.mem_flatMap] at hu
  obtain ⟨m, _, hm⟩ := hu
  simp only [List.mem_cons, List.not_mem_nil, or_false] at hm
  rcases hm with rfl | rfl <;> rfl
theorem MkR.flat {w : World} {ao : Option Addr} {ms : List (Int × Int)} (h : MkR w ao ms) {a : Addr} (ha : ao = some a) : ∀ j u, (flat2 ms)[j]? = some u → w.cell? (a.add j) = some u := by
  intro j u hj
  have hl := (List.getElem?_eq_some_iff.1 hj).1
  rw [flat2_len] at hl
  obtain ⟨g, off, e, h1, h2⟩ := h (j / 2) (by omega)
  rw [ha] at e; cases e
  rw [Addr.add_lit]
  obtain ⟨k1, k2⟩ := flat2_get ms (j / 2) (by omega)
  rcases Nat.mod_two_eq_zero_or_one j with e | e
  · have ej : j = j / 2 * 2 := by omega
    rw [← ej] at h1 k1
    rw [h1, ← k1, hj]
  · have ej : j = j / 2 * 2 + 1 := by omega
    rw [← ej] at k2
    rw [Nat.add_assoc, ← ej] at h2
    rw [h2, ← k2, hj]
/-- v is a row of the call's own, of these marks. -/
def Mr (t : TypeId) (base : Nat) (w : World) (v : Value) (ms : List (Int × Int)) : Prop := w.ownsRow base t 2 v ms.length (flat2 ms)
theorem Mr.below {t : TypeId} {base : Nat} {w w' : World} {v : Value} {ms : List (Int × Int)} (h : Mr t base w v ms) (hb : Below w.heap.size w w') : Mr t base w' v ms := own_below h hb
theorem Mr.nil (t : TypeId) (base : Nat) (w : World) : Mr t base w (.slice none 0 0) [] := World.ownsRow_nil _ _ _ _
theorem Mr.slice {t : TypeId} {base : Nat} {w : World} {v : Value} {ms : List (Int × Int)} (h : Mr t base w v ms) : ∃ ao cap, v = .slice ao ms.length cap ∧ MkR w ao ms ∧ ms.length ≤ cap ∧ cap ≤ maxLen := by
  rcases h.2 with ⟨rfl, h0⟩ | ⟨g, cap, cur, rfl, hb, hh, hc, hm, hs, ht⟩
  · have : ms = [] := List.eq_nil_of_length_eq_zero h0
    subst this
    exact ⟨none, 0, rfl, fun i hi => by simp at hi, Nat.le_refl _, by decide⟩
  · refine ⟨_, cap, rfl, fun i hi => ⟨g, 0, rfl, ?_, ?_⟩, hc, hm⟩
    · have := World.ownsRow.cells h (g := g) rfl _ _ (flat2_get ms i hi).1
      rwa [Addr.add_lit] at this
    · have := World.ownsRow.cells h (g := g) rfl _ _ (flat2_get ms i hi).2
      rwa [Addr.add_lit, ← Nat.add_assoc] at this
theorem Mr.grown {t : TypeId} {base : Nat} {a w w' : World} {v : Value} {ms : List (Int × Int)} (h : Mr t base w v ms) (hg : w.grownBy w' v.ownBlock) (hb : Below base a w) (hbb : base ≤ w.heap.size) : Below base a w' :=
  hb.grown hg hbb (fun k hk => (h.lt k hk).1)
theorem Try.infoM : (Try.prog.info? 30).map (fun i => (i.zero, i.size, i.bytes)) = some (some (.agg #[.int .i64 0, .int .i64 0]), 2, 16) := by kernel_rfl
theorem Try.infoRM : (Try.prog.info? 31).map (fun i => (i.zero, i.size, i.bytes)) = some (some (.agg #[.int .i64 0, .int .i64 0]), 2, 16) := by kernel_rfl
theorem run_marks {ts t : TypeId} (hts : Try.prog.underlying ts = some (.slice t)) (hi : (Try.prog.info? t).map (fun i => (i.zero, i.size, i.bytes)) = some (some (.agg #[.int .i64 0, .int .i64 0]), 2, 16)) {base : Nat} {w : World} {v : Value} {xs ys : List (Int × Int)} (hown : Mr t base w v xs) (ty : TypeId) (ao : Option Addr) (m c : Nat) (hy : ys.length = m) (hc : MkR w ao ys) (hl : xs.length + m ≤ 1000000) (hb : base ≤ w.heap.size) :
    ∃ v' w', (Builtin.append_ #[ts, ts] ty #[v, .slice ao m c]).run Try.prog w = .ok v' w' ∧ Mr t base w' v' (xs ++ ys) ∧ w.grownBy w' v.ownBlock := by
  obtain ⟨i0, hi0, hz0, hz1, hz2⟩ := info_parts hi
  cases ao with
  | none =>
    have hys : ys = [] := by
      cases ys with
      | nil => rfl
      | cons y ys => obtain ⟨_, _, e, _⟩ := hc 0 (by simp); cases e
    subst hys
    simp only [List.length_nil] at hy
    subst hy
    obtain ⟨av, cv, rfl, _, hcv, _⟩ := hown.slice
    have hr := run_append_nothing (P := Try.prog) w ts ts ty t i0 hts hi0 av xs.length cv hcv (.slice none 0 c) (Src.ofNil w hts c)
    exact ⟨_, _, hr, by simpa using hown, ⟨rfl, rfl, rfl, Nat.le_refl _, fun _ _ _ => rfl⟩⟩
  | some ad =>
    obtain ⟨v', w', hr, o', g', _⟩ := run_append_own_at (P := Try.prog) w base ts ty t i0 _ 2 16 hts hi0 hz0 hz1 hz2 rfl (by decide) v xs.length (flat2 xs) hown ad m c (flat2 ys) (by rw [flat2_len, hy]) (hc.flat rfl) (flat2_one ys) (by unfold maxLen; omega) (by omega) hb
    refine ⟨v', w', hr, ?_, g'⟩
    unfold Mr
    rw [List.length_append, hy, flat2_append]; exact o'
theorem wp_marks {ts t : TypeId} (hts : Try.prog.underlying ts = some (.slice t)) (hi : (Try.prog.info? t).map (fun i => (i.zero, i.size, i.bytes)) = some (some (.agg #[.int .i64 0, .int .i64 0]), 2, 16)) {w : World} {o : Oper} {a : Act} {K : Act → World → Prop} {Q : Exit → Act → World → Prop} (s x : Operand)
    (ho : o.op = .call { callee := .builtin .append, args := #[s, x], argTypes := #[ts, ts] }) (base : Nat) (v : Value) (xs ys : List (Int × Int)) (hs : a.eval s = v) (hown : Mr t base w v xs) (ao : Option Addr) (m c : Nat) (hy : ys.length = m) (hx : a.eval x = .slice ao m c)
    (hc : MkR w ao ys) (hl : xs.length + m ≤ 1000000) (hb : base ≤ w.heap.size)
    (h : ∀ v' w', Mr t base w' v' (xs ++ ys) → w.grownBy w' v.ownBlock → K (a.put o.dst v') w') : Oper.wp Try.prog o a w K Q := by
  obtain ⟨v', w', hr, h1, h2⟩ := run_marks hts hi hown o.type ao m c hy hc hl hb
  unfold Oper.wp execOp
  simp only [ho, resolve, invoke, builtin, Sem.run_bind, Sem.run_pure, Result.andThen_ok, List.map_toArray, List.map_cons, List.map_nil, hs, hx, hr]
  exact h v' w' h1 h2
theorem wpList_marks {ts t : TypeId} (hts : Try.prog.underlying ts = some (.slice t)) (hi : (Try.prog.info? t).map (fun i => (i.zero, i.size, i.bytes)) = some (some (.agg #[.int .i64 0, .int .i64 0]), 2, 16)) {w : World} {ops : Array Oper} {rest : List Oper} {o : Oper} {a : Act} {Q : Exit → Act → World → Prop} (hgd : o.guard = none) (s x : Operand)
    (ho : o.op = .call { callee := .builtin .append, args := #[s, x], argTypes := #[ts, ts] }) (base : Nat) (v : Value) (xs ys : List (Int × Int)) (hs : a.eval s = v) (hown : Mr t base w v xs) (ao : Option Addr) (m c : Nat) (hy : ys.length = m) (hx : a.eval x = .slice ao m c)
    (hc : MkR w ao ys) (hl : xs.length + m ≤ 1000000) (hb : base ≤ w.heap.size)
    (h : ∀ v' w', Mr t base w' v' (xs ++ ys) → w.grownBy w' v.ownBlock → wpList Try.prog ops Q rest (a.put o.dst v') w') : wpList Try.prog ops Q (o :: rest) a w :=
  wpList_plain hgd fun _ hK => wp_marks hts hi s x ho base v xs ys hs hown ao m c hy hx hc hl hb fun v' w' h1 h2 => hK _ _ (h v' w' h1 h2)
/-- marks that are laid at once. -/
theorem made_marks (w : World) (t : TypeId) (cs : Array Value) (ms : List (Int × Int)) (hc : cs.toList = flat2 ms) : MkR (w.alloc (.cells cs t)) (some ⟨w.heap.size, 0, none⟩) ms := fun i hi => by
  refine ⟨w.heap.size, 0, rfl, ?_, ?_⟩
  · have := news_at (W := w) (cs := cs) (t := t) (i * 2) _ (by rw [hc]; exact (flat2_get ms i hi).1)
    rwa [Addr.add_lit] at this
  · have := news_at (W := w) (cs := cs) (t := t) (i * 2 + 1) _ (by rw [hc]; exact (flat2_get ms i hi).2)
    rwa [Addr.add_lit, ← Nat.add_assoc] at this
theorem made_ints (w : World) (cs : Array Value) (ys : List Int) (hc : cs.toList = i64s ys) : IntsR (w.alloc (.cells cs 3)) (some ⟨w.heap.size, 0, none⟩) ys := fun i hi => by
  refine ⟨_, rfl, news_at i _ ?_⟩
  rw [hc, i64s, List.getElem?_map, List.getElem?_eq_getElem hi, List.getD_eq_getElem?_getD, List.getElem?_eq_getElem hi]; rfl

/-! ### the law's example -/
theorem known_is : ReachIs [] [1, 2, 3] [(1, 5), (2, 7), (3, 4)] 5 := by
  refine reach_ask (by decide) (fun _ => by decide) (fun m hm h => ?_)
  simp only [List.mem_cons, List.not_mem_nil, or_false] at hm
  rcases hm with rfl | rfl | rfl
  · exact absurd h (by decide)
  · decide
  · exact absurd h (by decide)
set_option maxHeartbeats 1000000 in
theorem known_any (w : World) : Calls Try.prog 8 #[] w fun e w' => e = .returned (.bool true) ∧ Below w.heap.size w w' := by
  obtain ⟨W1, hW1⟩ : ∃ W1, w.alloc (.cells #[.int .i64 1, .int .i64 2, .int .i64 3] 3) = W1 := ⟨_, rfl⟩
  have b1 : Below w.heap.size w W1 := by rw [← hW1]; exact (Below.refl _ w).alloc (Nat.le_refl _) _
  have i1 : IntsR W1 (some ⟨w.heap.size, 0, none⟩) [1, 2, 3] := by rw [← hW1]; exact made_ints w _ _ rfl
  have s1 : W1.heap.size = w.heap.size + 1 := by rw [← hW1]; simp
  obtain ⟨W2, hW2⟩ : ∃ W2, W1.alloc (.cells #[.int .i64 1, .int .i64 5, .int .i64 2, .int .i64 7, .int .i64 3, .int .i64 4] 30) = W2 := ⟨_, rfl⟩
  have b2 : Below W1.heap.size W1 W2 := by rw [← hW2]; exact (Below.refl _ W1).alloc (Nat.le_refl _) _
  have i2 : MkR W2 (some ⟨w.heap.size + 1, 0, none⟩) [(1, 5), (2, 7), (3, 4)] := by rw [← hW2, ← s1]; exact made_marks W1 _ _ _ rfl
  have Q1 := hide (reach_any none (some ⟨w.heap.size, 0, none⟩) 0 3 0 3 [] [1, 2, 3] rfl rfl (by decide) (by decide) Up.nil ⟨by decide, by decide⟩ (some ⟨w.heap.size + 1, 0, none⟩) 3 3 [(1, 5), (2, 7), (3, 4)] rfl (by decide) (by unfold Wfs wf64; decide) W2 (IntsR.nil _ _) (i1.below b2) i2)
  have HW : Hid ((w.alloc (.cells #[.int .i64 1, .int .i64 2, .int .i64 3] 3)).alloc (.cells #[.int .i64 1, .int .i64 5, .int .i64 2, .int .i64 7, .int .i64 3, .int .i64 4] 30) = W2) := by rw [hW1]; exact hW2
  have B2 := hide (b1.trans (b2.mono b1.size))
  clear hW1 hW2 b1 b2 i1 i2 s1
  go_enter Try.func8, Try.ntmps8
  go_wp2_with fail
  rw [unhide HW]
  refine (unhide Q1).mono ?_
  rintro e w3 ⟨r, rfl, hr, b3⟩
  obtain rfl := hr.unique known_is
  have B3 := hide ((unhide B2).trans (b3.mono (unhide B2).size))
  clear hr b3 Q1 HW B2
  go_wp2
  go_ret
  exact ⟨rfl, unhide B3⟩
end Go.Proofs.Ytjcidihcmbenhaa

/- The law's own rows: messages of three numbers, numbers. -/
import Derived.Test.YtnplhoekkoomiaaNCntW
import Derived.Deep.Upon
namespace Go.Proofs.Ytnplhoekkoomiaa
open Go.RowKit Go.Maps

def three (m : M) : List Value := [.int .i64 m.f, .int .i64 m.t, .int .i64 m.i]
def flat3 (ms : List M) : List Value := ms.flatMap three
theorem flat3_len (ms : List M) : (flat3 ms).length = ms.length * 3 := by
  induction ms with
  | nil => rfl
  | cons m ms ih =>
    show (three m ++ flat3 ms).length = _
    rw [List.length_append, ih, List.length_cons]; simp [three]; omega
theorem flat3_append (xs ys : List M) : flat3 (xs ++ ys) = flat3 xs ++ flat3 ys := by simp [flat3]
theorem flat3_get : ∀ (ms : List M) (i : Nat) (m : M) (j : Nat) (u : Value), ms[i]? = some m → (three m)[j]? = some u → (flat3 ms)[i * 3 + j]? = some u
  | [], i, m, j, u, h, _ => by simp at h
  | x :: ms, i, m, j, u, h, hu => by
    have hj : j < 3 := by have := (List.getElem?_eq_some_iff.1 hu).1; simpa [three] using this
    show (three x ++ flat3 ms)[i * 3 + j]? = some u
    cases i with
    | zero =>
      simp at h; subst h
      rw [List.getElem?_append_left (by simp [three]; omega)]
      simpa using hu
    | succ i =>
      rw [List.getElem?_append_right (by simp [three]; omega)]
      rw [show (i + 1) * 3 + j - (three x).length = i * 3 + j by simp [three]; omega]
      exact flat3_get ms i m j u (by simpa using h) hu
theorem flat3_one (ms : List M) : ∀ u ∈ flat3 ms, u.oneCell' = true := by
  intro u hu
  simp only [flat3, List.mem_flatMap] at hu
  obtain ⟨m, _, hm⟩ := hu
  simp only [three, List.mem_cons, List.not_mem_nil, or_false] at hm
  rcases hm with rfl | rfl | rfl <;> rfl

/-- v is a row of the call's own, of the messages ms. -/
def Lr (base : Nat) (w : World) (v : Value) (ms : List M) : Prop := w.ownsRow base 39 3 v ms.length (flat3 ms)
theorem Try.infoL : (Try.prog.info? 39).map (fun i => (i.zero, i.size, i.bytes)) = some (some (.agg #[.int .i64 0, .int .i64 0, .int .i64 0]), 3, 24) := by kernel_rfl
theorem Try.infoI : (Try.prog.info? 3).map (fun i => (i.zero, i.size, i.bytes)) = some (some (.int .i64 0), 1, 8) := by kernel_rfl
theorem Lr.only {base b : Nat} {ts : List TypeId} {w w' : World} {v : Value} {ms : List M} (h : Lr base w v ms) (ho : Only b ts w w') (ht : 39 ∉ ts) : Lr base w' v ms := own_only h ho ht
theorem Lr.below {base : Nat} {w w' : World} {v : Value} {ms : List M} (h : Lr base w v ms) (hb : Below w.heap.size w w') : Lr base w' v ms := own_below h hb
theorem Lr.nil (base : Nat) (w : World) : Lr base w (.slice none 0 0) [] := World.ownsRow_nil _ _ _ _
theorem Lr.slice {base : Nat} {w : World} {v : Value} {ms : List M} (h : Lr base w v ms) : ∃ ao cap, v = .slice ao ms.length cap ∧ ms.length ≤ cap ∧ cap ≤ maxLen ∧ (ms ≠ [] → ∃ g, ao = some ⟨g, 0, none⟩ ∧ base ≤ g ∧ g < w.heap.size ∧ v.ownBlock = some g) ∧ ∀ a, ao = some a → ∃ g, a = ⟨g, 0, none⟩ := by
  rcases h.2 with ⟨rfl, h0⟩ | ⟨g, cap, cur, rfl, hb, hh, hc, hm, hs, ht⟩
  · rw [h0]
    exact ⟨none, 0, rfl, Nat.le_refl _, by decide, fun hne => absurd (List.eq_nil_of_length_eq_zero h0) hne, fun a ha => by cases ha⟩
  · exact ⟨_, cap, rfl, hc, hm, fun _ => ⟨g, rfl, hb, blk_lt' hh, rfl⟩, fun a ha => ⟨g, by cases ha; rfl⟩⟩
theorem Lr.cells {base : Nat} {w : World} {g n cap : Nat} {ms : List M} (h : Lr base w (.slice (some ⟨g, 0, none⟩) n cap) ms) : ∀ j u, (flat3 ms)[j]? = some u → w.cell? ⟨g, j, none⟩ = some u := fun j u hj => by
  have := World.ownsRow.cells h (g := g) rfl j u hj
  rwa [Addr.add_lit, Nat.zero_add] at this
theorem Lr.at {base : Nat} {w : World} {g n cap : Nat} {ms : List M} (h : Lr base w (.slice (some ⟨g, 0, none⟩) n cap) ms) {i : Nat} {m : M} (hm : ms[i]? = some m) :
    w.cell? ⟨g, i * 3, none⟩ = some (.int .i64 m.f) ∧ w.cell? ⟨g, i * 3 + 1, none⟩ = some (.int .i64 m.t) ∧ w.cell? ⟨g, i * 3 + 2, none⟩ = some (.int .i64 m.i) :=
  ⟨h.cells _ _ (flat3_get ms i m 0 _ hm rfl), h.cells _ _ (flat3_get ms i m 1 _ hm rfl), h.cells _ _ (flat3_get ms i m 2 _ hm rfl)⟩

/-- a net stays while a law's row grows. -/
theorem Nt.grownL {base b : Nat} {w w' : World} {p : Nat} {bs : List Nat} {ms : List M} {side : List Int} {lost : Nat} {lv : Value} {t : TypeId} {size n : Nat} {xs : List Value} (h : Nt base w p bs ms side lost) (hown : w.ownsRow b t size lv n xs) (hg : w.grownBy w' lv.ownBlock) (h1 : t ≠ 53) (h2 : t ≠ 55) (h3 : t ≠ 36) : Nt base w' p bs ms side lost :=
  h.kept fun k hk _ hc => hg.block k hk fun e => by
    obtain ⟨_, cur, fr, h0⟩ := own_tag hown k e.symm
    rcases hc _ _ _ h0 with h4 | h4 | ⟨h4, _⟩
    · exact h1 h4
    · exact h2 h4
    · exact h3 h4
theorem grown_only {base b : Nat} {w w' : World} {v : Value} {t : TypeId} {size n : Nat} {xs : List Value} (hown : w.ownsRow b t size v n xs) (hg : w.grownBy w' v.ownBlock) (hb : base ≤ w.heap.size) (hbb : base ≤ b) : Only base [t] w w' := (Only.refl base [t] w).own hown hg hb hbb (by simp)

theorem run_rows {base : Nat} {w : World} {v : Value} {xs ys : List M} (hown : Lr base w v xs) (ty : TypeId) (ad : Addr) (m c : Nat) (hy : ys.length = m) (hc : ∀ j u, (flat3 ys)[j]? = some u → w.cell? (ad.add j) = some u) (hl : xs.length + m ≤ 1000000) (hb : base ≤ w.heap.size) :
    ∃ v' w', (Builtin.append_ #[26, 26] ty #[v, .slice (some ad) m c]).run Try.prog w = .ok v' w' ∧ Lr base w' v' (xs ++ ys) ∧ w.grownBy w' v.ownBlock ∧ (v'.ownBlock = v.ownBlock ∨ v'.ownBlock = some w.heap.size) := by
  obtain ⟨i0, hi, hz0, hz1, hz2⟩ := info_parts Try.infoL
  obtain ⟨v', w', hr, o', g', _, hat⟩ := run_append_own_at (P := Try.prog) w base 26 ty 39 i0 _ 3 24 Try.underlying26 hi hz0 hz1 hz2 rfl (by decide) v xs.length (flat3 xs) hown ad m c (flat3 ys) (by rw [flat3_len, hy]) hc (flat3_one ys) (by unfold maxLen; omega) (by omega) hb
  refine ⟨v', w', hr, ?_, g', hat⟩
  unfold Lr
  rw [List.length_append, hy, flat3_append]; exact o'
theorem wp_rows {w : World} {o : Oper} {a : Act} {K : Act → World → Prop} {Q : Exit → Act → World → Prop} (s x : Operand)
    (ho : o.op = .call { callee := .builtin .append, args := #[s, x], argTypes := #[26, 26] }) (base : Nat) (v : Value) (xs ys : List M) (hs : a.eval s = v) (hown : Lr base w v xs) (ad : Addr) (m c : Nat) (hy : ys.length = m) (hx : a.eval x = .slice (some ad) m c)
    (hc : ∀ j u, (flat3 ys)[j]? = some u → w.cell? (ad.add j) = some u) (hl : xs.length + m ≤ 1000000) (hb : base ≤ w.heap.size)
    (h : ∀ v' w', Lr base w' v' (xs ++ ys) → w.grownBy w' v.ownBlock → (v'.ownBlock = v.ownBlock ∨ v'.ownBlock = some w.heap.size) → K (a.put o.dst v') w') : Oper.wp Try.prog o a w K Q := by
  obtain ⟨v', w', hr, h1, h2, h3⟩ := run_rows hown o.type ad m c hy hc hl hb
  unfold Oper.wp execOp
  simp only [ho, resolve, invoke, builtin, Sem.run_bind, Sem.run_pure, Result.andThen_ok, List.map_toArray, List.map_cons, List.map_nil, hs, hx, hr]
  exact h v' w' h1 h2 h3
theorem step_rows {w : World} {ops : Array Oper} {o : Oper} {a : Act} {K : Act → World → Prop} {Q : Exit → Act → World → Prop} {E : Prop} (s x : Operand) (_ho : o.op = .call { callee := .builtin .append, args := #[s, x], argTypes := #[26, 26] }) (hg : o.guard = none) (h : Oper.wp Try.prog o a w K Q) :
    if Region.wanted o (yielded ops a.tmps) = true then Oper.wp Try.prog o a w K Q else E := step_on hg h
theorem wpList_rows {w : World} {ops : Array Oper} {rest : List Oper} {o : Oper} {a : Act} {Q : Exit → Act → World → Prop} (hgd : o.guard = none) (s x : Operand)
    (ho : o.op = .call { callee := .builtin .append, args := #[s, x], argTypes := #[26, 26] }) (base : Nat) (v : Value) (xs ys : List M) (hs : a.eval s = v) (hown : Lr base w v xs) (ad : Addr) (m c : Nat) (hy : ys.length = m) (hx : a.eval x = .slice (some ad) m c)
    (hc : ∀ j u, (flat3 ys)[j]? = some u → w.cell? (ad.add j) = some u) (hl : xs.length + m ≤ 1000000) (hb : base ≤ w.heap.size)
    (h : ∀ v' w', Lr base w' v' (xs ++ ys) → w.grownBy w' v.ownBlock → (v'.ownBlock = v.ownBlock ∨ v'.ownBlock = some w.heap.size) → wpList Try.prog ops Q rest (a.put o.dst v') w') : wpList Try.prog ops Q (o :: rest) a w :=
  wpList_plain hgd fun _ hK => wp_rows s x ho base v xs ys hs hown ad m c hy hx hc hl hb fun v' w' h1 h2 h3 => hK _ _ (h v' w' h1 h2 h3)

abbrev i64s (ys : List Int) : List Value := ys.map fun y => Value.int .i64 y
/-- v is a row of the call's own, of the numbers ys. -/
def Ir (base : Nat) (w : World) (v : Value) (ys : List Int) : Prop := w.ownsRow base 3 1 v ys.length (i64s ys)
theorem Ir.only {base b : Nat} {ts : List TypeId} {w w' : World} {v : Value} {ys : List Int} (h : Ir base w v ys) (ho : Only b ts w w') (ht : 3 ∉ ts) : Ir base w' v ys := own_only h ho ht
theorem Ir.below {base : Nat} {w w' : World} {v : Value} {ys : List Int} (h : Ir base w v ys) (hb : Below w.heap.size w w') : Ir base w' v ys := own_below h hb
theorem Ir.slice {base : Nat} {w : World} {v : Value} {ys : List Int} (h : Ir base w v ys) : ∃ ao cap, v = .slice ao ys.length cap ∧ Ints w ao ys ∧ (∀ a, ao = some a → ∃ g cur, a = ⟨g, 0, none⟩ ∧ base ≤ g ∧ w.heap[g]? = some (.cells cur 3 (0, 0)) ∧ ys.length ≤ cur.size) ∧ (ao = none → ys = []) := by
  rcases h.2 with ⟨rfl, h0⟩ | ⟨g, cap, cur, rfl, hb, hh, hc, hm, hs, ht⟩
  · have : ys = [] := List.eq_nil_of_length_eq_zero h0
    subst this
    exact ⟨none, 0, rfl, fun i y hy => by simp at hy, (fun a ha => by cases ha), fun _ => rfl⟩
  · refine ⟨_, cap, rfl, fun i y hy => ⟨_, rfl, ?_⟩, (fun a ha => ⟨g, cur, by cases ha; rfl, hb, hh, by omega⟩), (fun ha => by cases ha)⟩
    exact World.ownsRow.cells h (g := g) rfl i _ (by rw [List.getElem?_map, hy]; rfl)
/-- append([]int{}, s...). -/
theorem run_ints {base : Nat} {w : World} {v : Value} (hv : ∃ B, v = .slice (some ⟨B, 0, none⟩) 0 0) (hown : Ir base w v []) (ty : TypeId) (r : Option Addr) (l cx : Nat) (ys : List Int) (hy : ys.length = l) (hi : Ints w r ys) (hl : l ≤ 1000000) (hb : base ≤ w.heap.size) :
    ∃ v' w', (Builtin.append_ #[27, 27] ty #[v, .slice r l cx]).run Try.prog w = .ok v' w' ∧ Ir base w' v' ys ∧ w.grownBy w' v.ownBlock := by
  obtain ⟨i0, hi0, hz0, hz1, hz2⟩ := info_parts Try.infoI
  obtain ⟨B, rfl⟩ := hv
  cases r with
  | none =>
    have hys : ys = [] := by
      cases ys with
      | nil => rfl
      | cons y ys => obtain ⟨a, e, _⟩ := hi 0 y rfl; cases e
    subst hys
    simp only [List.length_nil] at hy
    subst hy
    have hr := run_append_nothing (P := Try.prog) w 27 27 ty 3 i0 Try.underlying27 hi0 (some ⟨B, 0, none⟩) 0 0 (Nat.le_refl _) (.slice none 0 cx) (Src.ofNil w Try.underlying27 cx)
    exact ⟨_, _, hr, hown, ⟨rfl, rfl, rfl, Nat.le_refl _, fun _ _ _ => rfl⟩⟩
  | some ad =>
    obtain ⟨v', w', hr, o', g', _⟩ := run_append_own_at (P := Try.prog) w base 27 ty 3 i0 _ 1 8 Try.underlying27 hi0 hz0 hz1 hz2 rfl (by decide) _ 0 [] hown ad l cx (i64s ys) (by rw [List.length_map, hy]; omega)
      (fun j u hj => by
        rw [List.getElem?_map] at hj
        cases hq : ys[j]? with
        | none => rw [hq] at hj; simp at hj
        | some y =>
          rw [hq] at hj; simp at hj; subst hj
          obtain ⟨a, e, c⟩ := hi j y hq
          cases e; exact c)
      (fun u hu => by simp only [i64s, List.mem_map] at hu; obtain ⟨y, _, rfl⟩ := hu; rfl) (by unfold maxLen; omega) (by omega) hb
    refine ⟨v', w', hr, ?_, g'⟩
    unfold Ir
    rw [hy]; simpa using o'
theorem wpList_ints {w : World} {ops : Array Oper} {rest : List Oper} {o : Oper} {a : Act} {Q : Exit → Act → World → Prop} (hgd : o.guard = none) (s x : Operand)
    (ho : o.op = .call { callee := .builtin .append, args := #[s, x], argTypes := #[27, 27] }) (base : Nat) (B : Nat) (hs : a.eval s = .slice (some ⟨B, 0, none⟩) 0 0) (hown : Ir base w (.slice (some ⟨B, 0, none⟩) 0 0) []) (r : Option Addr) (l cx : Nat) (ys : List Int) (hy : ys.length = l) (hx : a.eval x = .slice r l cx) (hi : Ints w r ys) (hl : l ≤ 1000000) (hb : base ≤ w.heap.size)
    (h : ∀ v' w', Ir base w' v' ys → w.grownBy w' (some B) → wpList Try.prog ops Q rest (a.put o.dst v') w') : wpList Try.prog ops Q (o :: rest) a w := by
  refine wpList_plain hgd fun K hK => ?_
  obtain ⟨v', w', hr, h1, h2⟩ := run_ints ⟨B, rfl⟩ hown o.type r l cx ys hy hi hl hb
  unfold Oper.wp execOp
  simp only [ho, resolve, invoke, builtin, Sem.run_bind, Sem.run_pure, Result.andThen_ok, List.map_toArray, List.map_cons, List.map_nil, hs, hx, hr]
  exact hK _ _ (h v' w' h1 h2)
theorem Ir.ints {base : Nat} {w : World} {ao : Option Addr} {n cap : Nat} {ys : List Int} (h : Ir base w (.slice ao n cap) ys) : Ints w ao ys := by
  obtain ⟨ao', cap', e, hi, _⟩ := h.slice
  cases e; exact hi
theorem flat3_drop {ms : List M} {i j : Nat} {u : Value} (hi : i ≤ ms.length) (h : (flat3 (ms.drop i))[j]? = some u) : (flat3 ms)[i * 3 + j]? = some u := by
  have e : flat3 ms = flat3 (ms.take i) ++ flat3 (ms.drop i) := by rw [← flat3_append, List.take_append_drop]
  rw [e, List.getElem?_append_right (by rw [flat3_len, List.length_take]; omega), flat3_len, List.length_take]
  rw [show i * 3 + j - min i ms.length * 3 = j by rw [Nat.min_eq_left hi]; omega]; exact h
theorem flat3_take {ms : List M} {i j : Nat} {u : Value} (h : (flat3 (ms.take i))[j]? = some u) : (flat3 ms)[j]? = some u := by
  have e : flat3 ms = flat3 (ms.take i) ++ flat3 (ms.drop i) := by rw [← flat3_append, List.take_append_drop]
  have hj := (List.getElem?_eq_some_iff.1 h).1
  rw [e, List.getElem?_append_left hj]; exact h
theorem zz {a n c : Nat} (h : a < n) (h1 : n ≤ 100) (h2 : n ≤ c) : a ≤ c ∧ a + 1 ≤ n ∧ (0 : Int) ≤ (a : Int) + 1 ∧ IntKind.i64.wrap ((a : Int) + 1) = (a : Int) + 1 ∧ wrap64 ((a : Int) + 1) = (a : Int) + 1 ∧ ((a : Int) + 1).toNat = a + 1 ∧ (a : Int) + 1 ≤ (n : Int) :=
  ⟨by omega, by omega, by omega, IntWalk.i64_in _ (by omega), IntWalk.wrap64_in _ (by omega), by omega, by omega⟩
theorem zn {a n c : Nat} (h : a < n) (h2 : n ≤ c) (e : a + 1 = c) : n = a + 1 := by omega
theorem zi (a : Nat) : (a : Int) ≤ (a : Int) + 1 := by omega
theorem len_take {ms : List M} {a : Nat} (h : a < ms.length) : (ms.take a).length = a := by rw [List.length_take]; omega
theorem len_drop (ms : List M) (a : Nat) : (ms.drop a).length = ms.length - a := List.length_drop
theorem bd1 {a n : Nat} (h : a < n) (h1 : n ≤ 100) : ([] : List M).length + a ≤ 1000000 := by simp; omega
theorem bd2 {ms : List M} {a m : Nat} (h : a < ms.length) (h1 : ms.length ≤ 100) (hm : m ≤ ms.length) : ([] ++ ms.take a).length + m ≤ 1000000 := by simp; omega
theorem len_erase {ms : List M} {a : Nat} (h : a < ms.length) : (ms.eraseIdx a).length + 1 = ms.length := by rw [List.length_eraseIdx, if_pos h]; omega
theorem er_end {ms : List M} {a : Nat} (h : a < ms.length) (e : ms.length = a + 1) : (ms.eraseIdx a).length = a := by rw [List.length_eraseIdx, if_pos h]; omega
theorem er_mid {ms : List M} {a : Nat} (h : a < ms.length) : (ms.eraseIdx a).length = min a ms.length + (ms.length - (a + 1)) := by rw [List.length_eraseIdx, if_pos h]; omega
theorem cn0 {a b c k : Nat} (h : a + b ≤ k) (e : c + 1 = b) : a + c ≤ k + 1 := by omega
theorem cn1 {a b c k : Nat} (h : a + b ≤ k) (e : c + 1 = b) : a + 1 + c ≤ k + 1 := by omega
theorem ne2 {a b q : Nat} (h1 : q = a) (h2 : b = q) (h : a < b) : False := by omega
/-- an empty row. -/
theorem Lr.empty {base b : Nat} {w : World} (hb : base ≤ b) (hh : w.heap[b]? = some (.cells #[] 39 (0, 0))) : Lr base w (.slice (some ⟨b, 0, none⟩) 0 0) [] :=
  ⟨rfl, Or.inr ⟨b, 0, #[], rfl, hb, hh, Nat.le_refl _, by decide, rfl, rfl⟩⟩
theorem Ir.empty {base b : Nat} {w : World} (hb : base ≤ b) (hh : w.heap[b]? = some (.cells #[] 3 (0, 0))) : Ir base w (.slice (some ⟨b, 0, none⟩) 0 0) [] :=
  ⟨rfl, Or.inr ⟨b, 0, #[], rfl, hb, hh, Nat.le_refl _, by decide, rfl, rfl⟩⟩
/-- a row stays while another one grows. -/
theorem Lr.beside {base : Nat} {w w' : World} {v v' : Value} {ms : List M} (h : Lr base w v ms) (hg : w.grownBy w' v'.ownBlock) (hn : ∀ k, v.ownBlock = some k → v'.ownBlock ≠ some k) : Lr base w' v ms :=
  own_kept h fun k hk => hg.block k (h.lt k hk).2 (fun e => hn k hk e.symm)
end Go.Proofs.Ytnplhoekkoomiaa

/- Some acceptors side by side, a row of pointers to them. -/
import Derived.Test.YtiibedgobhhikaaVChoA
import Derived.Test.YtiibedgobhhikaaVKnown
namespace Go.Proofs.Ytiibedgobhhikaa
open Go.RowKit Go.Maps

/-! ### rows of pointers -/
theorem Try.infoPA : (Try.prog.info? 24).map (fun i => (i.zero, i.size, i.bytes)) = some (some (.pointer none), 1, 8) := by kernel_rfl
def ptrs (ps : List Nat) : List Value := ps.map (fun p => .pointer (some ⟨p, 0, none⟩))
def Pr (base : Nat) (w : World) (v : Value) (ps : List Nat) : Prop := w.ownsRow base 24 1 v ps.length (ptrs ps)
theorem Pr.nil (base : Nat) (w : World) : Pr base w (.slice none 0 0) [] := ⟨rfl, Or.inl ⟨rfl, rfl⟩⟩
theorem Pr.below {base : Nat} {w w' : World} {v : Value} {ps : List Nat} (h : Pr base w v ps) (hb : Below w.heap.size w w') : Pr base w' v ps := own_below h hb
theorem Pr.slice {base : Nat} {w : World} {v : Value} {ps : List Nat} (h : Pr base w v ps) : ∃ ao cap, v = .slice ao ps.length cap := by
  rcases h.2 with ⟨e1, e2⟩ | ⟨g, cap, cur, e1, _⟩
  · exact ⟨none, 0, by rw [e2]; exact e1⟩
  · exact ⟨_, cap, e1⟩
theorem Pr.far {base low : Nat} {ts : List TypeId} {D : Nat → Prop} {w w' : World} {v : Value} {ps : List Nat} (h : Pr base w v ps) (hk : Kp D w w') (hf : Far low ts w D) (ht : 24 ∈ ts) : Pr base w' v ps := own_far h hk hf ht
theorem Pr.at {base : Nat} {w : World} {ao : Option Addr} {n cap : Nat} {ps : List Nat} (h : Pr base w (.slice ao n cap) ps) {i p : Nat} (hi : ps[i]? = some p) : ∃ g, ao = some ⟨g, 0, none⟩ ∧ w.cell? ⟨g, i, none⟩ = some (.pointer (some ⟨p, 0, none⟩)) := by
  rcases h.2 with ⟨e1, e2⟩ | ⟨g, cap', cur, e1, _⟩
  · have := (List.getElem?_eq_some_iff.1 hi).1; omega
  · obtain rfl : ao = some ⟨g, 0, none⟩ := by simp only [Value.slice.injEq] at e1; exact e1.1
    refine ⟨g, rfl, ?_⟩
    have := World.ownsRow.cells (by rw [e1] at h; exact h) (g := g) rfl i (.pointer (some ⟨p, 0, none⟩)) (by unfold ptrs; rw [List.getElem?_map, hi]; rfl)
    rw [Addr.add_lit, Nat.zero_add] at this; exact this
theorem wpList_appP {w : World} {ops : Array Oper} {rest : List Oper} {o : Oper} {a : Act} {Q : Exit → Act → World → Prop} (hgd : o.guard = none) (s x : Operand)
    (ho : o.op = .call { callee := .builtin .append, args := #[s, x], argTypes := #[58, 58] }) (base : Nat) (v : Value) (ps : List Nat) (hs : a.eval s = v) (hown : Pr base w v ps)
    (nb p : Nat) (hx : a.eval x = .slice (some ⟨nb, 0, none⟩) 1 1) (hy : w.cell? ⟨nb, 0, none⟩ = some (.pointer (some ⟨p, 0, none⟩))) (hl : ps.length ≤ 1000000) (hb : base ≤ w.heap.size)
    (h : ∀ v' w', Pr base w' v' (ps ++ [p]) → w.grownBy w' v.ownBlock → wpList Try.prog ops Q rest (a.put o.dst v') w') : wpList Try.prog ops Q (o :: rest) a w := by
  obtain ⟨i0, hi0, hz0, hz1, hz2⟩ := info_parts Try.infoPA
  refine wpList_plain hgd fun K hK => ?_
  obtain ⟨v', w', hr, o', g', _⟩ := run_append_own_at (P := Try.prog) w base 58 o.type 24 i0 _ 1 8 Try.underlying58 hi0 hz0 hz1 hz2 rfl (by decide) v ps.length (ptrs ps) hown ⟨nb, 0, none⟩ 1 1 [.pointer (some ⟨p, 0, none⟩)] rfl
    (fun j u hj => by
      have hj0 : j = 0 := by have := (List.getElem?_eq_some_iff.1 hj).1; simp at this; omega
      subst hj0
      simp at hj; subst hj
      rw [Addr.add_lit]; exact hy)
    (fun u hu => by simp at hu; subst hu; rfl) (by unfold maxLen; omega) (by omega) hb
  have h1 : Pr base w' v' (ps ++ [p]) := by
    unfold Pr ptrs
    rw [List.length_append, List.map_append]; exact o'
  unfold Oper.wp execOp
  simp only [ho, resolve, invoke, builtin, Sem.run_bind, Sem.run_pure, Result.andThen_ok, List.map_toArray, List.map_cons, List.map_nil, hs, hx, hr]
  exact hK _ _ (h v' w' h1 g')

/-! ### acceptors side by side -/
/-- blocks of another type do not touch an acceptor. -/
theorem Ac.kpT {D E : Nat → Prop} {w w' : World} {p q : Nat} {P : Int} {f : Vf} {c : Nat} {T : TypeId} (h : Ac D w p q P f c) (hk : Kp E w w') (hE : ∀ k, E k → k < w.heap.size → ∃ cur fr, w.heap[k]? = some (.cells cur T fr)) (h1 : T ≠ 66) (h2 : T ≠ 3) : Ac D w' p q P f c := by
  obtain ⟨es, cl, hq⟩ := h.map.isMap
  refine ⟨hk.block h.box (fun x => ?_), h.map.kp hk (fun x => ?_) (fun k hd => ?_), h.own, fun k x => Nat.lt_of_lt_of_le (h.lt k x) hk.size⟩
  · obtain ⟨cur, fr, hc⟩ := hE p x (heap_lt h.box)
    rw [h.box] at hc; cases hc; exact h1 rfl
  · obtain ⟨cur, fr, hc⟩ := hE q x (heap_lt hq)
    rw [hq] at hc; cases hc
  · by_cases x : E k
    · right
      intro cur fr hc
      obtain ⟨cur', fr', hc'⟩ := hE k x (h.lt k hd)
      rw [hc] at hc'; cases hc'; exact h2 rfl
    · exact Or.inl x
structure As (lo : Nat) (w : World) (N c : Nat) (ps qs : Nat → Nat) (P : Nat → Int) (v : Nat → Option (Int × Int)) (Ds : Nat → Nat → Prop) : Prop where
  ac : ∀ i, i < N → Ac (Ds i) w (ps i) (qs i) (P i) (fOf (v i)) c
  ap : ∀ i j, i < N → j < N → i ≠ j → ∀ k, Ds i k → ¬ Ds j k
  lo : ∀ i, i < N → lo ≤ ps i ∧ lo ≤ qs i
def upN {α : Type} (f : Nat → α) (i : Nat) (x : α) (j : Nat) : α := if j = i then x else f j
theorem upN_same {α : Type} (f : Nat → α) (i : Nat) (x : α) : upN f i x i = x := if_pos rfl
theorem upN_other {α : Type} (f : Nat → α) {i j : Nat} (x : α) (h : j ≠ i) : upN f i x j = f j := if_neg h
theorem As.below {lo : Nat} {w w' : World} {N c : Nat} {ps qs : Nat → Nat} {P : Nat → Int} {v : Nat → Option (Int × Int)} {Ds : Nat → Nat → Prop} (h : As lo w N c ps qs P v Ds) (hb : Below w.heap.size w w') : As lo w' N c ps qs P v Ds :=
  ⟨fun i hi => (h.ac i hi).below hb, h.ap, h.lo⟩
theorem As.kpT {lo : Nat} {w w' : World} {N c : Nat} {ps qs : Nat → Nat} {P : Nat → Int} {v : Nat → Option (Int × Int)} {Ds : Nat → Nat → Prop} {E : Nat → Prop} {T : TypeId} (h : As lo w N c ps qs P v Ds) (hk : Kp E w w') (hE : ∀ k, E k → k < w.heap.size → ∃ cur fr, w.heap[k]? = some (.cells cur T fr)) (h1 : T ≠ 66) (h2 : T ≠ 3) : As lo w' N c ps qs P v Ds :=
  ⟨fun i hi => (h.ac i hi).kpT hk hE h1 h2, h.ap, h.lo⟩
theorem As.mono {lo : Nat} {w : World} {N c c' : Nat} {ps qs : Nat → Nat} {P : Nat → Int} {v : Nat → Option (Int × Int)} {Ds : Nat → Nat → Prop} (h : As lo w N c ps qs P v Ds) (hc : c ≤ c') : As lo w N c' ps qs P v Ds :=
  ⟨fun i hi => (h.ac i hi).mono hc, h.ap, h.lo⟩
/-- one of them was called. -/
theorem As.turn {lo : Nat} {w w' : World} {N c c' : Nat} {ps qs : Nat → Nat} {P : Nat → Int} {v : Nat → Option (Int × Int)} {Ds : Nat → Nat → Prop} (h : As lo w N c ps qs P v Ds) {i : Nat} (hi : i < N) (hc : c ≤ c') {b : Int} {o : Option (Int × Int)} (a : Ac (News (Ds i) w w') w' (ps i) (qs i) b (fOf o) c') (hk : Kp (foot (ps i) (qs i)) w w') :
    As lo w' N c' ps qs (upN P i b) (upN v i o) (upN Ds i (News (Ds i) w w')) := by
  have own := (h.ac i hi).own
  refine ⟨fun j hj => ?_, fun j l hj hl hne k hd hl' => ?_, h.lo⟩
  · by_cases e : j = i
    · subst e
      rw [upN_same, upN_same, upN_same]; exact a
    · rw [upN_other _ _ e, upN_other _ _ e, upN_other _ _ e]
      refine ((h.ac j hj).kp hk (fun k hd x => ?_)).mono hc
      rcases x with rfl | rfl
      · exact h.ap i j hi hj (fun x => e x.symm) _ own.1 hd
      · exact h.ap i j hi hj (fun x => e x.symm) _ own.2 hd
  · by_cases e : j = i
    · subst e
      rw [upN_same] at hd
      rw [upN_other _ _ (fun x => hne x.symm)] at hl'
      rcases hd with hd | hd
      · exact h.ap j l hj hl hne k hd hl'
      · have := (h.ac l hl).lt k hl'; omega
    · rw [upN_other _ _ e] at hd
      by_cases e2 : l = i
      · subst e2
        rw [upN_same] at hl'
        rcases hl' with hl' | hl'
        · exact h.ap j l hj hl hne k hd hl'
        · have := (h.ac j hj).lt k hd; omega
      · rw [upN_other _ _ e2] at hl'
        exact h.ap j l hj hl hne k hd hl'
/-- one more. -/
theorem As.add {lo : Nat} {w w' : World} {N : Nat} {ps qs : Nat → Nat} {P : Nat → Int} {v : Nat → Option (Int × Int)} {Ds : Nat → Nat → Prop} (h : As lo w N 0 ps qs P v Ds) (hb : Below w.heap.size w w') (hlo : lo ≤ w.heap.size) {p q : Nat} (a : Ac (fun k => w.heap.size ≤ k ∧ k < w'.heap.size) w' p q 0 Vf.none 0) :
    As lo w' (N + 1) 0 (upN ps N p) (upN qs N q) (upN P N 0) (upN v N none) (upN Ds N (fun k => w.heap.size ≤ k ∧ k < w'.heap.size)) := by
  refine ⟨fun j hj => ?_, fun j l hj hl hne k hd hl' => ?_, fun j hj => ?_⟩
  · by_cases e : j = N
    · subst e
      rw [upN_same, upN_same, upN_same, upN_same, upN_same]; exact a
    · rw [upN_other _ _ e, upN_other _ _ e, upN_other _ _ e, upN_other _ _ e, upN_other _ _ e]; exact (h.ac j (by omega)).below hb
  · by_cases e : j = N
    · subst e
      rw [upN_same] at hd
      rw [upN_other _ _ (fun x => hne x.symm)] at hl'
      have := (h.ac l (by omega)).lt k hl'; omega
    · rw [upN_other _ _ e] at hd
      by_cases e2 : l = N
      · subst e2
        rw [upN_same] at hl'
        have := (h.ac j (by omega)).lt k hd; omega
      · rw [upN_other _ _ e2] at hl'
        exact h.ap j l (by omega) (by omega) hne k hd hl'
  · by_cases e : j = N
    · subst e
      rw [upN_same, upN_same]; exact ⟨Nat.le_trans hlo a.own.1.1, Nat.le_trans hlo a.own.2.1⟩
    · rw [upN_other _ _ e, upN_other _ _ e]; exact h.lo j (by omega)
end Go.Proofs.Ytiibedgobhhikaa

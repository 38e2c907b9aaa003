/- Rows of one's own: events whose entries have no members. -/
import Derived.Test.YtndpkpkijfplaaaGRow
namespace Go.Proofs.Ytndpkpkijfplaaa
open Go.RowKit Go.Maps

/-- an event, and where its entries lie. -/
abbrev Evx := Ev × Option Addr × Nat
def c11 (x : Evx) : List Value := [.int .i64 x.1.kind, .int .i64 x.1.client, .int .i64 x.1.seq, .int .i64 x.1.index, .int .i64 x.1.entry.kind, .int .i64 x.1.entry.client, .int .i64 x.1.entry.seq, .string x.1.entry.text, .slice none 0 0, .int .i64 x.1.entry.dest, .slice x.2.1 x.1.es.length x.2.2]
theorem c11_len (x : Evx) : (c11 x).length = 11 := rfl
theorem c11_one (x : Evx) : ∀ u ∈ c11 x, u.oneCell' = true := fun u hu => by
  simp only [c11, List.mem_cons, List.not_mem_nil, or_false] at hu
  rcases hu with rfl | rfl | rfl | rfl | rfl | rfl | rfl | rfl | rfl | rfl | rfl <;> rfl
/-- blocks of entries that are not N. -/
def EnB (base : Nat) (N : Option Nat) (w : World) (b : Nat) : Prop := base ≤ b ∧ (∃ cur fr, w.heap[b]? = some (.cells cur 29 fr)) ∧ N ≠ some b
structure EvOk (base : Nat) (N : Option Nat) (w : World) (x : Evx) : Prop where
  ms : x.1.entry.ms = []
  wf : wf64 x.1.client ∧ wf64 x.1.seq ∧ wf64 x.1.index
  es : EsR (EnB base N w) w x.2.1 x.1.es
  all : ∀ e ∈ x.1.es, En.wf e
  len : x.1.es.length ≤ 1000
  cap : x.1.es.length ≤ x.2.2
/-- blocks of entries are kept. -/
def Keeps (base : Nat) (N N' : Option Nat) (w w' : World) : Prop := ∀ b, EnB base N w b → w'.heap[b]? = w.heap[b]? ∧ N' ≠ some b
theorem EsR.keeps {base : Nat} {N N' : Option Nat} {w w' : World} {ao : Option Addr} {es : List En} (h : EsR (EnB base N w) w ao es) (hk : Keeps base N N' w w') : EsR (EnB base N' w') w' ao es := fun i e hi => by
  obtain ⟨g, off, mo, cap, h1, h2, h3, h4, h5⟩ := h i e hi
  have up : ∀ b, EnB base N w b → EnB base N' w' b := fun b hb => by
    obtain ⟨q1, q2⟩ := hk b hb
    obtain ⟨b1, ⟨cur, fr, b2⟩, b3⟩ := hb
    exact ⟨b1, ⟨cur, fr, q1.trans b2⟩, q2⟩
  refine ⟨g, off, mo, cap, h1, up g h2, fun j u hj => ?_, fun k hk' => ?_, h5⟩
  · rw [World.cell?_of_block (w := w) (hk g h2).1]; exact h3 j u hj
  · obtain ⟨a, a1, a2, a3⟩ := h4 k hk'
    exact ⟨a, a1, up _ a2, by rw [World.cell?_of_block (w := w) (a := a.add k) (by rw [add_block]; exact (hk _ a2).1)]; exact a3⟩
theorem EvOk.keeps {base : Nat} {N N' : Option Nat} {w w' : World} {x : Evx} (h : EvOk base N w x) (hk : Keeps base N N' w w') : EvOk base N' w' x := ⟨h.ms, h.wf, h.es.keeps hk, h.all, h.len, h.cap⟩
theorem EnB.lt {base : Nat} {N : Option Nat} {w : World} {b : Nat} (h : EnB base N w b) : b < w.heap.size := by
  obtain ⟨_, ⟨cur, fr, h2⟩, _⟩ := h; exact heap_lt h2
theorem Keeps.below {base : Nat} {N : Option Nat} {w w' : World} (hb : Below w.heap.size w w') : Keeps base N N w w' := fun b h => ⟨hb.block b h.lt, h.2.2⟩
theorem Keeps.trans {base : Nat} {N N' N'' : Option Nat} {a b c : World} (h : Keeps base N N' a b) (k : Keeps base N' N'' b c) : Keeps base N N'' a c := fun x hx => by
  obtain ⟨h1, h2⟩ := h x hx
  obtain ⟨b1, ⟨cur, fr, b2⟩, b3⟩ := hx
  obtain ⟨k1, k2⟩ := k x ⟨b1, ⟨cur, fr, h1.trans b2⟩, h2⟩
  exact ⟨k1.trans h1, k2⟩
/-- a row of another type grows. -/
theorem Keeps.grown {base : Nat} {N : Option Nat} {w w' : World} {e : TypeId} {bs size n : Nat} {v : Value} {xs : List Value} (ho : w.ownsRow bs e size v n xs) (he : e ≠ 29) (hg : w.grownBy w' v.ownBlock) : Keeps base N N w w' := fun b h => by
  obtain ⟨b1, ⟨cur, fr, b2⟩, b3⟩ := h
  refine ⟨hg.block b (heap_lt b2) (fun x => ?_), b3⟩
  obtain ⟨_, cur', fr', hc⟩ := own_tag ho b x.symm
  rw [b2] at hc; cases hc; exact he rfl
/-- the row that is left out grows. -/
theorem Keeps.log {base : Nat} {w w' : World} {v v' : Value} (hg : w.grownBy w' v.ownBlock) (hv : v'.ownBlock = v.ownBlock ∨ v'.ownBlock = some w.heap.size) : Keeps base v.ownBlock v'.ownBlock w w' := fun b h => by
  refine ⟨hg.block b h.lt (fun x => h.2.2 x.symm), fun x => ?_⟩
  rcases hv with hv | hv
  · rw [hv] at x; exact h.2.2 x
  · rw [hv] at x
    have := h.lt
    cases x; omega
def cells11s (xs : List Evx) : List Value := xs.flatMap c11
theorem cells11s_app (xs ys : List Evx) : cells11s (xs ++ ys) = cells11s xs ++ cells11s ys := by unfold cells11s; rw [List.flatMap_append]
/-- a row of events. -/
def VR (base : Nat) (N : Option Nat) (w : World) (v : Value) (xs : List Evx) : Prop := w.ownsRow base 31 11 v xs.length (cells11s xs) ∧ ∀ x ∈ xs, EvOk base N w x
theorem VR.nil (base : Nat) (N : Option Nat) (w : World) : VR base N w (.slice none 0 0) [] := ⟨⟨rfl, Or.inl ⟨rfl, rfl⟩⟩, fun e he => by cases he⟩
theorem VR.below {base : Nat} {N : Option Nat} {w w' : World} {v : Value} {xs : List Evx} (h : VR base N w v xs) (hb : Below w.heap.size w w') : VR base N w' v xs := ⟨own_below h.1 hb, fun x hx => (h.2 x hx).keeps (Keeps.below hb)⟩
/-- the log's row grows. -/
theorem VR.log {base bs : Nat} {w w' : World} {l l' v : Value} {xs : List Evx} (h : VR base l.ownBlock w v xs) {n : Nat} {ys : List Value} (ho : w.ownsRow bs 29 6 l n ys) (hg : w.grownBy w' l.ownBlock) (hv : l'.ownBlock = l.ownBlock ∨ l'.ownBlock = some w.heap.size) : VR base l'.ownBlock w' v xs := by
  refine ⟨own_kept h.1 fun k hk => hg.block k (h.1.lt k hk).2 (fun e => ?_), fun x hx => (h.2 x hx).keeps (Keeps.log hg hv)⟩
  obtain ⟨_, cur, fr, hc⟩ := own_tag h.1 k hk
  obtain ⟨_, cur', fr', hc'⟩ := own_tag ho k e.symm
  rw [hc] at hc'; cases hc'
theorem VR.slice {base : Nat} {N : Option Nat} {w : World} {v : Value} {xs : List Evx} (h : VR base N w v xs) : ∃ ao cap, v = .slice ao xs.length cap ∧ xs.length ≤ cap := by
  rcases h.1.2 with ⟨e1, e2⟩ | ⟨g, cap, cur, e1, e5, _, e3, e4, _⟩
  · exact ⟨none, 0, by rw [e2]; exact e1, by omega⟩
  · exact ⟨_, cap, e1, e3⟩
theorem VR.evR {base : Nat} {N : Option Nat} {w : World} {ao : Option Addr} {n cap : Nat} {xs : List Evx} (h : VR base N w (.slice ao n cap) xs) : EvR w (EnB base N w) ao (xs.map Prod.fst) := fun i v hv => by
  rw [List.getElem?_map] at hv
  cases hx : xs[i]? with
  | none => rw [hx] at hv; cases hv
  | some x =>
    rw [hx] at hv
    cases hv
    have ok := h.2 x (List.mem_of_getElem? hx)
    rcases h.1.2 with ⟨e1, e2⟩ | ⟨g, cap', cur, e1, e5, _⟩
    · have := (List.getElem?_eq_some_iff.1 hx).1; omega
    · obtain rfl : ao = some ⟨g, 0, none⟩ := by simp only [Value.slice.injEq] at e1; exact e1.1
      refine ⟨g, 0, none, 0, x.2.1, x.2.2, rfl, fun j u hj => ?_, ok.wf, ⟨?_, ?_⟩, ok.es, ok.all, by have := ok.len; omega⟩
      · have hj2 : (c11 x)[j]? = some u := by
          have := hj
          simp only [evv, ok.ms, List.length_nil] at this
          simpa [c11] using this
        have := World.ownsRow.cells (by rw [e1] at h; exact h.1) (g := g) rfl (i * 11 + j) u (flat_at c11_len xs i x hx j u hj2)
        rw [Addr.add_lit] at this
        rw [Nat.add_assoc]; exact this
      · rw [ok.ms]; exact fun i hi => by simp at hi
      · rw [ok.ms]; simp
theorem EvR.front {A : World} {F : Nat → Prop} {ao : Option Addr} {vs : List Ev} (h : EvR A F ao vs) (k : Nat) : EvR A F ao (vs.take k) := fun i v hv => by
  rw [List.getElem?_take] at hv
  split at hv
  · exact h i v hv
  · cases hv
theorem Try.infoEv : (Try.prog.info? 31).map (fun i => (i.zero, i.size, i.bytes)) = some (some (.agg #[.int .i64 0, .int .i64 0, .int .i64 0, .int .i64 0, .int .i64 0, .int .i64 0, .int .i64 0, .string ⟨#[]⟩, .slice none 0 0, .int .i64 0, .slice none 0 0]), 11, 128) := by kernel_rfl
/-- one event more. -/
theorem VR.push {base : Nat} {N : Option Nat} {w : World} {v : Value} {xs : List Evx} (h : VR base N w v xs) (ty : TypeId) (nb : Nat) (x : Evx) (hx : w.heap[nb]? = some (.cells (c11 x).toArray 31 (0, 0))) (ok : EvOk base N w x) (hl : xs.length ≤ 1000000) (hb : base ≤ w.heap.size) :
    ∃ v' w', (Builtin.append_ #[22, 22] ty #[v, .slice (some ⟨nb, 0, none⟩) 1 1]).run Try.prog w = .ok v' w' ∧ VR base N w' v' (xs ++ [x]) ∧ w.grownBy w' v.ownBlock ∧ Keeps base N N w w' := by
  obtain ⟨i0, hi, hz0, hz1, hz2⟩ := info_parts Try.infoEv
  obtain ⟨v', w', hr, o', g', _, hat⟩ := run_append_own_at (P := Try.prog) w base 22 ty 31 i0 _ 11 128 Try.underlying22 hi hz0 hz1 hz2 rfl (by decide) v xs.length (cells11s xs) h.1 ⟨nb, 0, none⟩ 1 1 (c11 x) rfl
    (fun j u hj => by rw [Addr.add_lit, Nat.zero_add, cell_of_block hx]; simpa using hj) (c11_one x) (by unfold maxLen; omega) (by omega) hb
  have kp : Keeps base N N w w' := Keeps.grown h.1 (by decide) g'
  refine ⟨v', w', hr, ⟨by rw [List.length_append, cells11s_app]; simpa [cells11s] using o', fun y hy => ?_⟩, g', kp⟩
  rcases List.mem_append.1 hy with h1 | h1
  · exact (h.2 y h1).keeps kp
  · simp only [List.mem_singleton] at h1; subst h1; exact ok.keeps kp
/-- where a row that grew lies. -/
theorem ER.push_at {base : Nat} {w : World} {v : Value} {es : List En} (h : ER base w v es) (ty : TypeId) (nb : Nat) (g : En) (hx : w.heap[nb]? = some (.cells (c6 g).toArray 29 (0, 0))) (hm : g.ms = []) (hl : es.length ≤ 1000000) (hb : base ≤ w.heap.size) :
    ∃ v' w', (Builtin.append_ #[24, 24] ty #[v, .slice (some ⟨nb, 0, none⟩) 1 1]).run Try.prog w = .ok v' w' ∧ ER base w' v' (es ++ [g]) ∧ w.grownBy w' v.ownBlock ∧ (v'.ownBlock = v.ownBlock ∨ v'.ownBlock = some w.heap.size) := by
  obtain ⟨i0, hi, hz0, hz1, hz2⟩ := info_parts Try.infoEn
  obtain ⟨v', w', hr, o', g', _, hat⟩ := run_append_own_at (P := Try.prog) w base 24 ty 29 i0 _ 6 72 Try.underlying24 hi hz0 hz1 hz2 rfl (by decide) v es.length (cells6 es) h.1 ⟨nb, 0, none⟩ 1 1 (c6 g) rfl
    (fun j u hj => by rw [Addr.add_lit, Nat.zero_add, cell_of_block hx]; simpa using hj) (c6_one g) (by unfold maxLen; omega) (by omega) hb
  refine ⟨v', w', hr, ⟨by rw [List.length_append, cells6_app]; simpa [cells6] using o', fun e he => ?_⟩, g', hat⟩
  rcases List.mem_append.1 he with h1 | h1
  · exact h.2 e h1
  · simp only [List.mem_singleton] at h1; subst h1; exact hm
end Go.Proofs.Ytndpkpkijfplaaa

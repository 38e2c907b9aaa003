/- The document's own log: what it is in memory; Last, Term: contracts. -/
import Derived.Test.YtmgdkbpbmngibaaHFrom
namespace Go.Proofs.Ytmgdkbpbmngibaa
open Go.RowKit Go.Maps

/-- a row of entries of the call's own, their members in memory that came in. -/
def XRow (base : Nat) (w : World) (v : Value) (es : List En) : Prop :=
  ∃ xs, w.ownsRow base 60 6 v es.length xs ∧ ∀ (i : Nat) (e : En), es[i]? = some e → ∃ mo cap, (∀ (j : Nat) (u : Value), (e.cells (.slice mo e.ms.length cap))[j]? = some u → xs[i * 6 + j]? = some u) ∧ InF (fun k => k < base) w mo e.ms ∧ e.ms.length ≤ 1000000
theorem XRow.nil (base : Nat) (w : World) : XRow base w (.slice none 0 0) [] := ⟨[], ⟨rfl, Or.inl ⟨rfl, rfl⟩⟩, fun i e hi => by simp at hi⟩
theorem XRow.kp {E : Nat → Prop} {base : Nat} {w w' : World} {v : Value} {es : List En} (h : XRow base w v es) (hk : Kp E w w') (hv : ∀ k, v.ownBlock = some k → ¬ E k) (hb : ∀ k, E k → base ≤ k) : XRow base w' v es := by
  obtain ⟨xs, h1, h2⟩ := h
  refine ⟨xs, Kept.own hk h1 hv, fun i e hi => ?_⟩
  obtain ⟨mo, cap, k1, k2, k3⟩ := h2 i e hi
  exact ⟨mo, cap, k1, k2.kp hk (fun k hk' x => by have := hb k x; omega), k3⟩
theorem XRow.slice {base : Nat} {w : World} {v : Value} {es : List En} (h : XRow base w v es) : ∃ ao cap, v = .slice ao es.length cap ∧ es.length ≤ cap ∧ cap ≤ maxLen := by
  obtain ⟨xs, h1, _⟩ := h
  rcases h1.2 with ⟨e1, e2⟩ | ⟨g, cap, cur, e1, _, _, e3, e4, _⟩
  · exact ⟨none, 0, by rw [e2]; exact e1, by omega, by decide⟩
  · exact ⟨_, cap, e1, e3, e4⟩
theorem XRow.esR {base : Nat} {w : World} {ao : Option Addr} {n cap : Nat} {es : List En} (h : XRow base w (.slice ao n cap) es) (hb : base ≤ w.heap.size) : EsR (fun k => k < w.heap.size) w ao es := fun i e hi => by
  obtain ⟨xs, h1, h2⟩ := h
  obtain ⟨mo, mc, k1, k2, k4⟩ := h2 i e hi
  rcases h1.2 with ⟨e1, e2⟩ | ⟨g, cap', cur, e1, e2, e3, _⟩
  · have := (List.getElem?_eq_some_iff.1 hi).1; omega
  · obtain rfl : ao = some ⟨g, 0, none⟩ := by simp only [Value.slice.injEq] at e1; exact e1.1
    refine ⟨g, 0, mo, mc, rfl, heap_lt e3, fun j u hj => ?_, k2.mono (fun k hk => by omega), k4⟩
    have := World.ownsRow.cells (by rw [e1] at h1; exact h1) (g := g) rfl (i * 6 + j) u (k1 j u hj)
    rw [Addr.add_lit] at this
    rw [Nat.add_assoc]; exact this
theorem XRow.at {base : Nat} {w : World} {ao : Option Addr} {n cap : Nat} {es : List En} (h : XRow base w (.slice ao n cap) es) {k : Nat} {e : En} (he : es[k]? = some e) :
    ∃ g mo mc, ao = some ⟨g, 0, none⟩ ∧ (∀ (j : Nat) (u : Value), (e.cells (.slice mo e.ms.length mc))[j]? = some u → w.cell? ⟨g, k * 6 + j, none⟩ = some u) ∧ InF (fun j => j < base) w mo e.ms ∧ e.ms.length ≤ 1000000 := by
  obtain ⟨xs, h1, h2⟩ := h
  obtain ⟨mo, mc, k1, k2, k4⟩ := h2 k e he
  rcases h1.2 with ⟨e1, e2⟩ | ⟨g, cap', cur, e1, e2, e3, _⟩
  · have := (List.getElem?_eq_some_iff.1 he).1; omega
  · obtain rfl : ao = some ⟨g, 0, none⟩ := by simp only [Value.slice.injEq] at e1; exact e1.1
    refine ⟨g, mo, mc, rfl, fun j u hj => ?_, k2, k4⟩
    have := World.ownsRow.cells (by rw [e1] at h1; exact h1) (g := g) rfl (k * 6 + j) u (k1 j u hj)
    rwa [Addr.add_lit, Nat.zero_add] at this
structure Xs (base : Nat) (D : Nat → Prop) (w : World) (p : Nat) (b : Int) (rs : List Rw) : Prop where
  box : ∃ tv ev, w.heap[p]? = some (.cells #[.int .i64 b, tv, ev] 32 (0, 0)) ∧ Ir 0 w tv (rs.map (·.1)) ∧ XRow base w ev (rs.map (·.2)) ∧ (∀ k, tv.ownBlock = some k → D k) ∧ (∀ k, ev.ownBlock = some k → D k)
  own : D p
  lt : ∀ k, D k → k < w.heap.size
  low : ∀ k, D k → base ≤ k
theorem Xs.kp {base : Nat} {D E : Nat → Prop} {w w' : World} {p : Nat} {b : Int} {rs : List Rw} (h : Xs base D w p b rs) (hk : Kp E w w') (hd : ∀ k, D k → ¬ E k) (hb : ∀ k, E k → base ≤ k) : Xs base D w' p b rs := by
  obtain ⟨⟨tv, ev, h1, h2, h3, h4, h5⟩, h6, h7, h8⟩ := h
  exact ⟨⟨tv, ev, hk.block h1 (hd p h6), h2.kp hk (fun k e => hd k (h4 k e)), h3.kp hk (fun k e => hd k (h5 k e)) hb, h4, h5⟩, h6, fun k x => Nat.lt_of_lt_of_le (h7 k x) hk.size, h8⟩
theorem Xs.below {base : Nat} {D : Nat → Prop} {w w' : World} {p : Nat} {b : Int} {rs : List Rw} (h : Xs base D w p b rs) (hb : Below w.heap.size w w') : Xs base D w' p b rs := h.kp (E := fun _ => False) (Kp.of_below hb) (fun _ _ x => x) (fun _ x => x.elim)
theorem three_cells {w : World} {p : Nat} {x y z : Value} {t : TypeId} {fr : Nat × Nat} (h : w.heap[p]? = some (.cells #[x, y, z] t fr)) : w.cell? ⟨p, 0, none⟩ = some x ∧ w.cell? ⟨p, 1, none⟩ = some y ∧ w.cell? ⟨p, 2, none⟩ = some z :=
  ⟨(cell_of_block h).trans rfl, (cell_of_block h).trans rfl, (cell_of_block h).trans rfl⟩

set_option maxHeartbeats 1000000 in
theorem xlast_any {base : Nat} {D : Nat → Prop} {w : World} {p : Nat} {b : Int} {rs : List Rw} (h : Xs base D w p b rs) (hf : Fit b rs) :
    Calls Try.prog 18 #[.pointer (some ⟨p, 0, none⟩)] w fun e w' => e = .returned (.int .i64 (b + (rs.length : Int))) ∧ Below w.heap.size w w' := by
  obtain ⟨⟨tv, ev, hbx, h2, h3, _, _⟩, _, _, _⟩ := h
  obtain ⟨ao, cap, rfl, _⟩ := h3.slice
  obtain ⟨h0, h1, hn1⟩ := hf
  rw [List.length_map] at hbx
  obtain ⟨n, hn⟩ : ∃ n, rs.length = n := ⟨_, rfl⟩
  rw [hn] at hbx hn1 ⊢
  obtain ⟨c0, _, c2⟩ := three_cells hbx
  have wr : IntKind.i64.wrap (b + (n : Int)) = b + (n : Int) := IntWalk.i64_in _ (by omega)
  clear hbx h2 h3 hn
  go_enter Try.func18, Try.ntmps18
  go_wp2_with fail
  go_quiet (fail)
  go_wp2
  go_ret
  exact ⟨rfl, drewN_below _ _⟩

set_option maxHeartbeats 1000000 in
theorem xterm_any {base : Nat} {D : Nat → Prop} {w : World} {p : Nat} {b : Int} {rs : List Rw} (h : Xs base D w p b rs) (hf : Fit b rs) (i : Int) :
    Calls Try.prog 17 #[.pointer (some ⟨p, 0, none⟩), .int .i64 i] w fun e w' => e = .returned (.int .i64 (termOf b rs i)) ∧ Below w.heap.size w w' := by
  have LA := hide (xlast_any h hf)
  obtain ⟨L, hL⟩ : ∃ L, b + (rs.length : Int) = L := ⟨_, rfl⟩
  rw [hL] at LA
  obtain ⟨⟨tv, ev, hbx, h2, h3, _, _⟩, _, _, _⟩ := h
  have hb0 := hf.b0
  have hb1 := hf.b1
  have hn1 := hf.n1
  have c0 := (three_cells hbx).1
  by_cases g1 : i ≤ b
  · have ht : termOf b rs i = 0 := by unfold termOf; rw [rowAt_none (by omega)]
    rw [ht]
    clear hbx h2 h3 ht
    go_enter Try.func17, Try.ntmps17
    go_wp2
    go_ret
    exact ⟨rfl, Below.refl _ _⟩
  · have d1 : decide (i ≤ b) = false := decide_eq_false g1
    by_cases g2 : L < i
    · have ht : termOf b rs i = 0 := by unfold termOf; rw [rowAt_none (by omega)]
      rw [ht]
      have d2 : decide (L < i) = true := decide_eq_true g2
      clear hbx h2 h3 ht g1 g2
      go_enter Try.func17, Try.ntmps17
      go_wp2_with fail
      refine (unhide LA).mono ?_
      rintro e w1 ⟨rfl, b1⟩
      have B1 := hide b1
      clear b1 LA
      go_wp2
      go_ret
      exact ⟨rfl, unhide B1⟩
    · have d2 : decide (L < i) = false := decide_eq_false g2
      obtain ⟨r, hr1, hr2⟩ := rowAt_some (b := b) (rs := rs) (i := i) (by omega)
      have ht : termOf b rs i = r.1 := by unfold termOf; rw [hr1]
      rw [ht]
      obtain ⟨k, hk⟩ : ∃ k, (i - b - 1).toNat = k := ⟨_, rfl⟩
      rw [hk] at hr2
      have hkl := (List.getElem?_eq_some_iff.1 hr2).1
      obtain ⟨t, ht'⟩ : ∃ t, r.1 = t := ⟨_, rfl⟩
      rw [ht']
      obtain ⟨ao, cap, rfl, hfr, _, _⟩ := h2.slice
      obtain ⟨a, rfl, hc⟩ := hfr.1 k (by rw [List.length_map]; exact hkl)
      have hg : (rs.map (·.1)).getD k 0 = t := by rw [List.getD_eq_getElem?_getD, List.getElem?_map, hr2]; exact ht'
      rw [hg] at hc
      rw [List.length_map] at hbx
      obtain ⟨n, hn⟩ : ∃ n, rs.length = n := ⟨_, rfl⟩
      rw [hn] at hbx hkl
      have HX := hide hbx
      have HC := hide hc
      have e1 : i - b - 1 = (k : Int) := by omega
      have w1 : IntKind.i64.wrap (i - b) = (k : Int) + 1 := by rw [IntWalk.i64_in _ (by omega)]; omega
      have hkI : (k : Int) < (n : Int) := by omega
      have wrk : IntKind.i64.wrap (k : Int) = (k : Int) := IntWalk.i64_in _ (by omega)
      clear hbx h2 h3 ht hr1 hr2 hk ht' hfr hc hg hn g1 g2
      go_enter Try.func17, Try.ntmps17
      go_wp2_with fail
      refine (unhide LA).mono ?_
      rintro e w2 ⟨rfl, b2⟩
      obtain ⟨k0, k1, _⟩ := three_cells (Below.stay b2 (unhide HX))
      have kc : w2.cell? (a.add k) = some (.int .i64 t) := by rw [b2.cell (blk_lt (unhide HC))]; exact unhide HC
      have B2 := hide b2
      clear b2 LA
      go_wp2_with fail
      have k0' : w2.drew.cell? ⟨p, 0, none⟩ = some (.int .i64 b) := k0
      have k1' : w2.drew.cell? ⟨p, 1, none⟩ = some (.slice (some a) n cap) := k1
      have kc' : w2.drew.cell? (a.add k) = some (.int .i64 t) := kc
      go_region_with (fail)
      all_goals go_wp2
      all_goals go_ret
      all_goals exact ⟨rfl, (unhide B2).drew⟩
end Go.Proofs.Ytmgdkbpbmngibaa

/- The document's table in memory: its Request and Ask: contracts. -/
import Derived.Test.YtkalpdfigdaalaaUEsA
import Derived.Deep.QuietTactic
import Derived.BigQuiet
namespace Go.Proofs.Ytkalpdfigdaalaa
open Go.RowKit Go.Maps
attribute [local go_sem ↓] Go.wp_at_zero Go.wp_at_succ

/-- a row of entries of one's own, their members anywhere below a world. -/
def XEs (b0 base : Nat) (w : World) (v : Value) (es : List En) : Prop :=
  ∃ xs, w.ownsRow base 31 6 v es.length xs ∧ ∀ (i : Nat) (e : En), es[i]? = some e → ∃ mo mc, (∀ (j : Nat) (u : Value), (e.cells (.slice mo e.ms.length mc))[j]? = some u → xs[i * 6 + j]? = some u) ∧ InF (fun k => k < b0) w mo e.ms ∧ e.ms.length ≤ 1000000
theorem XEs.nil (b0 base : Nat) (w : World) : XEs b0 base w (.slice none 0 0) [] := ⟨[], ⟨rfl, Or.inl ⟨rfl, rfl⟩⟩, fun i r hi => by simp at hi⟩
theorem XEs.slice {b0 base : Nat} {w : World} {rv : Value} {es : List En} (h : XEs b0 base w rv es) : ∃ ao cap, rv = .slice ao es.length cap ∧ es.length ≤ cap ∧ cap ≤ maxLen := by
  obtain ⟨xs, h1, _⟩ := h
  rcases h1.2 with ⟨e1, e2⟩ | ⟨g, cap, cur, e1, _, _, e3, e4, _⟩
  · exact ⟨none, 0, by rw [e2]; exact e1, by omega, by decide⟩
  · exact ⟨_, cap, e1, e3, e4⟩
/-- the table: a box with such a row. -/
structure XTb (b0 base : Nat) (w : World) (p : Nat) (rv : Value) (es : List En) : Prop where
  box : w.heap[p]? = some (.cells #[rv] 29 (0, 0))
  row : XEs b0 base w rv es
  lo : base ≤ p
  old : b0 ≤ base
theorem XEs.keep {b0 base : Nat} {D : Nat → Prop} {w w' : World} {v : Value} {es : List En} (h : XEs b0 base w v es) (hk : Kp D w w') (hd : ∀ k, D k → b0 ≤ k) (hv : ∀ k, v.ownBlock = some k → ¬ D k) : XEs b0 base w' v es := by
  obtain ⟨xs, h1, h3⟩ := h
  refine ⟨xs, Kept.own hk h1 hv, fun i r hi => ?_⟩
  obtain ⟨mo, mc, k1, k2, k3⟩ := h3 i r hi
  exact ⟨mo, mc, k1, k2.kp hk (fun k hk' hx => by have := hd k hx; omega), k3⟩
theorem XEs.below {b0 base : Nat} {w w' : World} {v : Value} {es : List En} (h : XEs b0 base w v es) (hb : Below w.heap.size w w') : XEs b0 base w' v es := by
  obtain ⟨xs, h1, h3⟩ := h
  refine ⟨xs, own_below h1 hb, fun i r hi => ?_⟩
  obtain ⟨mo, mc, k1, k2, k3⟩ := h3 i r hi
  exact ⟨mo, mc, k1, k2.below hb, k3⟩
theorem XTb.below {b0 base : Nat} {w w' : World} {p : Nat} {rv : Value} {es : List En} (h : XTb b0 base w p rv es) (hb : Below w.heap.size w w') : XTb b0 base w' p rv es := ⟨Below.stay hb h.box, h.row.below hb, h.lo, h.old⟩
/-- its entries can be read. -/
theorem XEs.esR {b0 base : Nat} {w : World} {ao : Option Addr} {n cap : Nat} {es : List En} (h : XEs b0 base w (.slice ao n cap) es) : EsR (fun _ => True) w ao es := fun i e hi => by
  obtain ⟨xs, h1, h3⟩ := h
  obtain ⟨mo, mc, k1, k2, k3⟩ := h3 i e hi
  rcases h1.2 with ⟨e1, e2⟩ | ⟨g, cap', cur, e1, e2, e3, _⟩
  · have := (List.getElem?_eq_some_iff.1 hi).1; omega
  · obtain rfl : ao = some ⟨g, 0, none⟩ := by simp only [Value.slice.injEq] at e1; exact e1.1
    refine ⟨g, 0, mo, mc, rfl, trivial, fun j u hj => ?_, k2.mono (fun _ _ => trivial), k3⟩
    have := World.ownsRow.cells (by rw [e1] at h1; exact h1) (g := g) rfl (i * 6 + j) u (k1 j u hj)
    rw [Addr.add_lit] at this
    rw [Nat.add_assoc]; exact this
theorem XEs.at {b0 base : Nat} {w : World} {ao : Option Addr} {n cap : Nat} {es : List En} (h : XEs b0 base w (.slice ao n cap) es) {k : Nat} {e : En} (he : es[k]? = some e) :
    ∃ b, ao = some ⟨b, 0, none⟩ ∧ w.cell? ⟨b, k * 6 + 1, none⟩ = some (.int .i64 e.client) ∧ w.cell? ⟨b, k * 6 + 2, none⟩ = some (.int .i64 e.seq) := by
  obtain ⟨xs, h1, h3⟩ := h
  obtain ⟨mo, mc, k1, -, -⟩ := h3 k e he
  rcases h1.2 with ⟨e1, e2⟩ | ⟨g, cap', cur, e1, e2, e3, _⟩
  · have := (List.getElem?_eq_some_iff.1 he).1; omega
  · obtain rfl : ao = some ⟨g, 0, none⟩ := by simp only [Value.slice.injEq] at e1; exact e1.1
    have hc : ∀ (j : Nat) (u : Value), (e.cells (.slice mo e.ms.length mc))[j]? = some u → w.cell? ⟨g, k * 6 + j, none⟩ = some u := fun j u hj => by
      have := World.ownsRow.cells (by rw [e1] at h1; exact h1) (g := g) rfl (k * 6 + j) u (k1 j u hj)
      rwa [Addr.add_lit, Nat.zero_add] at this
    obtain ⟨-, c1, c2, -⟩ := En.six hc
    exact ⟨g, rfl, c1, c2⟩
theorem XEs.tag {b0 base : Nat} {w : World} {v : Value} {es : List En} (h : XEs b0 base w v es) : ∀ k, v.ownBlock = some k → base ≤ k ∧ ∃ cur fr, w.heap[k]? = some (.cells cur 31 fr) := fun k hk => by
  obtain ⟨xs, h1, _⟩ := h
  exact own_tag h1 k hk
/-- whether an entry is a request. -/
abbrev reqOk (e : En) : Prop := 1 ≤ e.kind ∧ e.kind ≤ 3 ∧ 1 ≤ e.client ∧ 1 ≤ e.seq
set_option maxRecDepth 20000 in
theorem request_any (e : En) (mo : Option Addr) (m mc : Nat) (w : World) :
    Calls Try.prog 23 #[.agg #[.int .i64 e.kind, .int .i64 e.client, .int .i64 e.seq, .string e.text, .slice mo m mc, .int .i64 e.dest]] w fun x w' => x = .returned (.bool (decide (reqOk e))) ∧ Below w.heap.size w w' := by
  obtain ⟨W, hW, bW, xW⟩ := boxE w e.kind e.client e.seq e.text mo m mc e.dest
  have k0 : W.cell? ⟨w.heap.size, 0, none⟩ = some (.int .i64 e.kind) := (cell_of_block xW).trans rfl
  have k1 : W.cell? ⟨w.heap.size, 1, none⟩ = some (.int .i64 e.client) := (cell_of_block xW).trans rfl
  have k2 : W.cell? ⟨w.heap.size, 2, none⟩ = some (.int .i64 e.seq) := (cell_of_block xW).trans rfl
  obtain ⟨K, hK⟩ : ∃ K, e.kind = K := ⟨_, rfl⟩
  obtain ⟨C, hC⟩ : ∃ K, e.client = K := ⟨_, rfl⟩
  obtain ⟨S, hS⟩ : ∃ K, e.seq = K := ⟨_, rfl⟩
  unfold reqOk
  rw [hK, hC, hS]
  rw [hK] at k0
  rw [hC] at k1
  rw [hS] at k2
  rw [hK, hC, hS] at hW
  have HW := hide hW
  have BW := hide bW
  clear hW xW bW hK hC hS
  have HD : ∀ (b : Bool), decide (1 ≤ K ∧ K ≤ 3 ∧ 1 ≤ C ∧ 1 ≤ S) = b → Hid (decide (1 ≤ K ∧ K ≤ 3 ∧ 1 ≤ C ∧ 1 ≤ S) = b) := fun b h => hide h
  by_cases g1 : K ≥ 1
  · by_cases g2 : K ≤ 3
    · by_cases g3 : C ≥ 1
      · by_cases g4 : S ≥ 1
        · have D := HD true (decide_eq_true ⟨g1, g2, g3, g4⟩)
          rw [unhide D]
          go_enter Try.func23, Try.ntmps23
          go_upto_region 1 with fail
          rw [unhide HW]
          go_wp2
          go_ret
          exact ⟨rfl, unhide BW⟩
        · have D := HD false (decide_eq_false (fun h => g4 h.2.2.2))
          rw [unhide D]
          go_enter Try.func23, Try.ntmps23
          go_upto_region 1 with fail
          rw [unhide HW]
          go_wp2
          go_ret
          exact ⟨rfl, unhide BW⟩
      · have D := HD false (decide_eq_false (fun h => g3 h.2.2.1))
        rw [unhide D]
        go_enter Try.func23, Try.ntmps23
        go_upto_region 1 with fail
        rw [unhide HW]
        go_wp2
        go_ret
        exact ⟨rfl, unhide BW⟩
    · have D := HD false (decide_eq_false (fun h => g2 h.2.1))
      rw [unhide D]
      go_enter Try.func23, Try.ntmps23
      go_upto_region 1 with fail
      rw [unhide HW]
      go_wp2
      go_ret
      exact ⟨rfl, unhide BW⟩
  · have D := HD false (decide_eq_false (fun h => g1 h.1))
    rw [unhide D]
    go_enter Try.func23, Try.ntmps23
    go_upto_region 1 with fail
    rw [unhide HW]
    go_wp2
    go_ret
    exact ⟨rfl, unhide BW⟩
end Go.Proofs.Ytkalpdfigdaalaa

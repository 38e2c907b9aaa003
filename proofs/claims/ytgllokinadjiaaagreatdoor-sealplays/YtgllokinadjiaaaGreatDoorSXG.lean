/- The document's generations in memory; engine, Now, Fence, New: contracts. -/
import Derived.Test.YtgllokinadjiaaaGreatDoorSXOld
import Derived.Test.YtgllokinadjiaaaGreatDoorKRefC
import Derived.Test.YtgllokinadjiaaaGreatDoorSFit
namespace Go.Proofs.YtgllokinadjiaaaGreatDoor
open Go.RowKit Go.Maps

def Gn.xcells (g : Gn) (ov mv : Value) : List Value := [.int .i64 g.n, .int .i64 g.eng, .int .i64 g.base, ov, mv]
theorem Gn.xcells_one (g : Gn) {ov mv : Value} (h : ov.oneCell' = true) (h2 : mv.oneCell' = true) : ∀ u ∈ g.xcells ov mv, u.oneCell' = true := fun u hu => by
  simp only [Gn.xcells, List.mem_cons, List.not_mem_nil, or_false] at hu
  rcases hu with rfl | rfl | rfl | rfl | rfl
  · rfl
  · rfl
  · rfl
  · exact h
  · exact h2
/-- a row of generations of one's own, their members in some blocks. -/
def XGs (F : Nat → Prop) (base : Nat) (w : World) (v : Value) (gs : List Gn) : Prop :=
  ∃ xs, w.ownsRow base 26 5 v gs.length xs ∧ ∀ (i : Nat) (g : Gn), gs[i]? = some g → ∃ oo oc mo mc, (∀ (j : Nat) (u : Value), (g.xcells (.slice oo 0 oc) (.slice mo g.ms.length mc))[j]? = some u → xs[i * 5 + j]? = some u) ∧ InF F w mo g.ms ∧ g.ms.length ≤ 1000
structure XG (F : Nat → Prop) (base : Nat) (w : World) (p : Nat) (rv : Value) (gs : List Gn) : Prop where
  box : w.heap[p]? = some (.cells #[rv] 49 (0, 0))
  row : XGs F base w rv gs
  lo : base ≤ p
theorem XGs.keep {F D : Nat → Prop} {base : Nat} {w w' : World} {v : Value} {gs : List Gn} (h : XGs F base w v gs) (hk : Kp D w w') (hf : ∀ k, F k → ¬ D k) (hv : ∀ k, v.ownBlock = some k → ¬ D k) : XGs F base w' v gs := by
  obtain ⟨xs, h1, h3⟩ := h
  refine ⟨xs, Kept.own hk h1 hv, fun i r hi => ?_⟩
  obtain ⟨oo, oc, mo, mc, k1, k2, k3⟩ := h3 i r hi
  exact ⟨oo, oc, mo, mc, k1, k2.kp hk hf, k3⟩
theorem XGs.below {F : Nat → Prop} {base : Nat} {w w' : World} {v : Value} {gs : List Gn} (h : XGs F base w v gs) (hb : Below w.heap.size w w') : XGs F base w' v gs := h.keep (D := fun _ => False) (Kp.of_below hb) (fun _ _ x => x) (fun _ _ x => x)
theorem XGs.mono {F G : Nat → Prop} {base : Nat} {w : World} {v : Value} {gs : List Gn} (h : XGs F base w v gs) (hg : ∀ k, F k → G k) : XGs G base w v gs := by
  obtain ⟨xs, h1, h3⟩ := h
  refine ⟨xs, h1, fun i r hi => ?_⟩
  obtain ⟨oo, oc, mo, mc, k1, k2, k3⟩ := h3 i r hi
  exact ⟨oo, oc, mo, mc, k1, k2.mono hg, k3⟩
theorem XG.below {F : Nat → Prop} {base : Nat} {w w' : World} {p : Nat} {rv : Value} {gs : List Gn} (h : XG F base w p rv gs) (hb : Below w.heap.size w w') : XG F base w' p rv gs := ⟨Below.stay hb h.box, h.row.below hb, h.lo⟩
theorem XG.mono {F G : Nat → Prop} {base : Nat} {w : World} {p : Nat} {rv : Value} {gs : List Gn} (h : XG F base w p rv gs) (hg : ∀ k, F k → G k) : XG G base w p rv gs := ⟨h.box, h.row.mono hg, h.lo⟩
theorem XGs.slice {F : Nat → Prop} {base : Nat} {w : World} {rv : Value} {gs : List Gn} (h : XGs F base w rv gs) : ∃ ao cap, rv = .slice ao gs.length cap ∧ gs.length ≤ cap ∧ cap ≤ maxLen ∧ (ao = none → cap = 0) := by
  obtain ⟨xs, h1, _⟩ := h
  rcases h1.2 with ⟨e1, e2⟩ | ⟨g, cap, cur, e1, _, _, e3, e4, _⟩
  · exact ⟨none, 0, by rw [e2]; exact e1, by omega, by decide, fun _ => rfl⟩
  · exact ⟨_, cap, e1, e3, e4, fun e => by cases e⟩
theorem XGs.tag {F : Nat → Prop} {base : Nat} {w : World} {v : Value} {gs : List Gn} (h : XGs F base w v gs) : ∀ k, v.ownBlock = some k → base ≤ k ∧ ∃ cur fr, w.heap[k]? = some (.cells cur 26 fr) := fun k hk => by
  obtain ⟨xs, h1, _⟩ := h
  exact own_tag h1 k hk
theorem XGs.at {F : Nat → Prop} {base : Nat} {w : World} {ao : Option Addr} {n cap : Nat} {gs : List Gn} (h : XGs F base w (.slice ao n cap) gs) {i : Nat} {g : Gn} (hi : gs[i]? = some g) :
    ∃ b oo oc mo mc, ao = some ⟨b, 0, none⟩ ∧ w.cell? ⟨b, i * 5, none⟩ = some (.int .i64 g.n) ∧ w.cell? ⟨b, i * 5 + 1, none⟩ = some (.int .i64 g.eng) ∧ w.cell? ⟨b, i * 5 + 2, none⟩ = some (.int .i64 g.base) ∧ w.cell? ⟨b, i * 5 + 3, none⟩ = some (.slice oo 0 oc) ∧ w.cell? ⟨b, i * 5 + 4, none⟩ = some (.slice mo g.ms.length mc) ∧ InF F w mo g.ms ∧ g.ms.length ≤ 1000 := by
  obtain ⟨xs, h1, h3⟩ := h
  obtain ⟨oo, oc, mo, mc, k1, k2, k3⟩ := h3 i g hi
  rcases h1.2 with ⟨e1, e2⟩ | ⟨b, cap', cur, e1, e2, e3, _⟩
  · have := (List.getElem?_eq_some_iff.1 hi).1; omega
  · obtain rfl : ao = some ⟨b, 0, none⟩ := by simp only [Value.slice.injEq] at e1; exact e1.1
    have hc : ∀ (j : Nat) (u : Value), (g.xcells (.slice oo 0 oc) (.slice mo g.ms.length mc))[j]? = some u → w.cell? ⟨b, i * 5 + j, none⟩ = some u := fun j u hj => by
      have := World.ownsRow.cells (by rw [e1] at h1; exact h1) (g := b) rfl (i * 5 + j) u (k1 j u hj)
      rwa [Addr.add_lit, Nat.zero_add] at this
    exact ⟨b, oo, oc, mo, mc, rfl, hc 0 _ rfl, hc 1 _ rfl, hc 2 _ rfl, hc 3 _ rfl, hc 4 _ rfl, k2, k3⟩
/-- a generation's value. -/
def xgV (g : Gn) (oo : Option Addr) (oc : Nat) (mo : Option Addr) (mc : Nat) : Value := .agg #[.int .i64 g.n, .int .i64 g.eng, .int .i64 g.base, .slice oo 0 oc, .slice mo g.ms.length mc]
theorem xengine_any (k : Int) (w : World) : Calls Tryz.prog 28 #[.int .i64 k] w fun e w' => e = .returned (.bool (decide (k = 1 ∨ k = 2))) ∧ w' = w := by
  by_cases h1 : k = 1
  · rw [decide_eq_true (Or.inl h1)]
    go_enter Tryz.func28, Tryz.ntmps28
    go_wp2
    go_ret
    exact ⟨rfl, rfl⟩
  · have q1 : (k == 1) = false := by simp [h1]
    by_cases h2 : k = 2
    · rw [decide_eq_true (Or.inr h2)]
      go_enter Tryz.func28, Tryz.ntmps28
      go_wp2
      go_ret
      exact ⟨rfl, rfl⟩
    · have q2 : (k == 2) = false := by simp [h2]
      rw [decide_eq_false (by omega)]
      clear h1 h2
      go_enter Tryz.func28, Tryz.ntmps28
      go_wp2
      go_ret
      exact ⟨rfl, rfl⟩
set_option maxRecDepth 20000 in
set_option maxHeartbeats 2000000 in
theorem xnow_core {w : World} {p b n m ca z oc : Nat} {mo oo : Option Addr} {mc : Nat} (hm : n = m + 1) (hl : n ≤ 1000000) (gn ge gb : Int) (pc : w.cell? ⟨p, 0, none⟩ = some (.slice (some ⟨b, 0, none⟩) n ca))
    (c0 : w.cell? ⟨b, m * 5, none⟩ = some (.int .i64 gn)) (c1 : w.cell? ⟨b, m * 5 + 1, none⟩ = some (.int .i64 ge)) (c2 : w.cell? ⟨b, m * 5 + 2, none⟩ = some (.int .i64 gb)) (c3 : w.cell? ⟨b, m * 5 + 3, none⟩ = some (.slice oo 0 oc)) (c4 : w.cell? ⟨b, m * 5 + 4, none⟩ = some (.slice mo z mc)) :
    Calls Tryz.prog 11 #[.pointer (some ⟨p, 0, none⟩)] w fun e w' => e = .returned (.agg #[.int .i64 gn, .int .i64 ge, .int .i64 gb, .slice oo 0 oc, .slice mo z mc]) ∧ Below w.heap.size w w' := by
  obtain ⟨W, hW⟩ : ∃ W, w.alloc (.cells #[.int .i64 0, .int .i64 0, .int .i64 0, .slice none 0 0, .slice none 0 0] 26) = W := ⟨_, rfl⟩
  have bW : Below w.heap.size w W := by rw [← hW]; exact (Below.refl _ w).alloc (Nat.le_refl _) _
  have xW : W.heap[w.heap.size]? = some (.cells #[.int .i64 0, .int .i64 0, .int .i64 0, .slice none 0 0, .slice none 0 0] 26 (0, 0)) := by rw [← hW]; exact box_at _ _
  have SX : Hid (∀ Y, Below w.heap.size w Y → (Y.cell? ⟨p, 0, none⟩ = some (.slice (some ⟨b, 0, none⟩) n ca) ∧ Y.cell? ⟨b, m * 5, none⟩ = some (.int .i64 gn) ∧ Y.cell? ⟨b, m * 5 + 1, none⟩ = some (.int .i64 ge) ∧ Y.cell? ⟨b, m * 5 + 2, none⟩ = some (.int .i64 gb) ∧ Y.cell? ⟨b, m * 5 + 3, none⟩ = some (.slice oo 0 oc) ∧ Y.cell? ⟨b, m * 5 + 4, none⟩ = some (.slice mo z mc))) := hide (fun Y hY =>
    ⟨(hY.cell (blk_lt pc)).trans pc, (hY.cell (blk_lt c0)).trans c0, (hY.cell (blk_lt c1)).trans c1, (hY.cell (blk_lt c2)).trans c2, (hY.cell (blk_lt c3)).trans c3, (hY.cell (blk_lt c4)).trans c4⟩)
  have z0 : W.drew.cell? ⟨w.heap.size, 0, none⟩ = some (.int .i64 0) := (cell_of_block (w := W.drew) xW).trans rfl
  have z0' : W.cell? ⟨w.heap.size, 0, none⟩ = some (.int .i64 0) := (cell_of_block (w := W) xW).trans rfl
  have z1 : W.drew.cell? ⟨w.heap.size, 1, none⟩ = some (.int .i64 0) := (cell_of_block (w := W.drew) xW).trans rfl
  have z1' : W.cell? ⟨w.heap.size, 1, none⟩ = some (.int .i64 0) := (cell_of_block (w := W) xW).trans rfl
  have z2 : W.drew.cell? ⟨w.heap.size, 2, none⟩ = some (.int .i64 0) := (cell_of_block (w := W.drew) xW).trans rfl
  have z2' : W.cell? ⟨w.heap.size, 2, none⟩ = some (.int .i64 0) := (cell_of_block (w := W) xW).trans rfl
  have z3 : W.drew.cell? ⟨w.heap.size, 3, none⟩ = some (.slice none 0 0) := (cell_of_block (w := W.drew) xW).trans rfl
  have z3' : W.cell? ⟨w.heap.size, 3, none⟩ = some (.slice none 0 0) := (cell_of_block (w := W) xW).trans rfl
  have z4 : W.drew.cell? ⟨w.heap.size, 4, none⟩ = some (.slice none 0 0) := (cell_of_block (w := W.drew) xW).trans rfl
  have z4' : W.cell? ⟨w.heap.size, 4, none⟩ = some (.slice none 0 0) := (cell_of_block (w := W) xW).trans rfl
  have fz : ∀ i, W.drew.frozen? ⟨w.heap.size, i, none⟩ = false := fun i => free_of_block (w := W.drew) xW
  have fz' : ∀ i, W.frozen? ⟨w.heap.size, i, none⟩ = false := fun i => free_of_block (w := W) xW
  have q1 : (m : Int) < (n : Int) := by omega
  have hs1 : IntKind.i64.wrap ((n : Int) - 1) = (m : Int) := by rw [show (n : Int) - 1 = (m : Int) by omega]; exact IntWalk.i64_in _ (by omega)
  have q0 : (0 : Int) ≤ (m : Int) := by omega
  have EZ := hide bW
  have XW := hide xW
  have HW := hide hW
  clear hm hW xW bW pc c0 c1 c2 c3 c4
  go_enter Tryz.func11, Tryz.ntmps11
  go_upto_region 1 with fail
  rw [unhide HW]
  clear HW
  go_region_held3 (fun Y => Y.cell? ⟨p, 0, none⟩ = some (.slice (some ⟨b, 0, none⟩) n ca) ∧ Y.cell? ⟨b, m * 5, none⟩ = some (.int .i64 gn) ∧ Y.cell? ⟨b, m * 5 + 1, none⟩ = some (.int .i64 ge) ∧ Y.cell? ⟨b, m * 5 + 2, none⟩ = some (.int .i64 gb) ∧ Y.cell? ⟨b, m * 5 + 3, none⟩ = some (.slice oo 0 oc) ∧ Y.cell? ⟨b, m * 5 + 4, none⟩ = some (.slice mo z mc)) (first | with_reducible exact unhide SX _ (unhide EZ) | with_reducible exact unhide SX _ (unhide EZ).drew | with_reducible exact unhide SX _ (set5 (unhide EZ) (Nat.le_refl _)) | with_reducible exact unhide SX _ (set5 (unhide EZ).drew (Nat.le_refl _)) | with_reducible exact unhide SX _ (set5 (unhide EZ) (Nat.le_refl _)).drew | with_reducible exact unhide SX _ (set5 (unhide EZ).drew (Nat.le_refl _)).drew | fail) (fail)
  go_wp2
  obtain ⟨U, hU⟩ : ∃ U : World, U = (((((W.setCell ⟨w.heap.size, 0, none⟩ (.int .i64 gn)).setCell ⟨w.heap.size, 1, none⟩ (.int .i64 ge)).setCell ⟨w.heap.size, 2, none⟩ (.int .i64 gb)).setCell ⟨w.heap.size, 3, none⟩ (.slice oo 0 oc)).setCell ⟨w.heap.size, 4, none⟩ (.slice mo z mc)) := ⟨_, rfl⟩
  rw [← hU]
  obtain ⟨hh, bU, kU⟩ := five_end (unhide XW) (Nat.le_refl _) (unhide EZ) U hU
  have e0 : U.drew.cell? ⟨w.heap.size, 0, none⟩ = some (.int .i64 gn) := (cell_of_block (w := U.drew) hh).trans rfl
  have e1 : U.drew.cell? ⟨w.heap.size, 1, none⟩ = some (.int .i64 ge) := (cell_of_block (w := U.drew) hh).trans rfl
  have e2 : U.drew.cell? ⟨w.heap.size, 2, none⟩ = some (.int .i64 gb) := (cell_of_block (w := U.drew) hh).trans rfl
  have e3 : U.drew.cell? ⟨w.heap.size, 3, none⟩ = some (.slice oo 0 oc) := (cell_of_block (w := U.drew) hh).trans rfl
  have e4 : U.drew.cell? ⟨w.heap.size, 4, none⟩ = some (.slice mo z mc) := (cell_of_block (w := U.drew) hh).trans rfl
  refine bodyPost_ret (v := .agg #[.int .i64 gn, .int .i64 ge, .int .i64 gb, .slice oo 0 oc, .slice mo z mc]) (by simp [results, Tryz.results11, go_sem, e0, e1, e2, e3, e4]) rfl ⟨rfl, bU.drew⟩
/-- Now: the last one, in this world and all behind it. -/
theorem xnow_any {F : Nat → Prop} {base : Nat} {w : World} {p : Nat} {rv : Value} {gs : List Gn} (h : XG F base w p rv gs) (hl : gs.length ≤ 1000000) {l : Gn} (hg : gs[gs.length - 1]? = some l) :
    ∃ oo oc mo mc, InF F w mo l.ms ∧ l.ms.length ≤ 1000 ∧ ∀ Y, Below w.heap.size w Y → Calls Tryz.prog 11 #[.pointer (some ⟨p, 0, none⟩)] Y fun e w' => e = .returned (xgV l oo oc mo mc) ∧ Below Y.heap.size Y w' := by
  obtain ⟨ao, cap, rfl, -, -, -⟩ := h.row.slice
  obtain ⟨m, hm⟩ : ∃ m, gs.length = m + 1 := ⟨gs.length - 1, by have := (List.getElem?_eq_some_iff.1 hg).1; omega⟩
  have hbx := h.box
  have hrow := h.row
  rw [hm] at hbx hrow hg hl
  obtain ⟨b, oo, oc, mo, mc, rfl, c0, c1, c2, c3, c4, him, hml⟩ := hrow.at (i := m) hg
  refine ⟨oo, oc, mo, mc, him, hml, fun Y hY => ?_⟩
  have pc : w.cell? ⟨p, 0, none⟩ = some (.slice (some ⟨b, 0, none⟩) (m + 1) cap) := (cell_of_block hbx).trans rfl
  exact xnow_core (m := m) rfl hl l.n l.eng l.base ((hY.cell (blk_lt pc)).trans pc) ((hY.cell (blk_lt c0)).trans c0) ((hY.cell (blk_lt c1)).trans c1) ((hY.cell (blk_lt c2)).trans c2) ((hY.cell (blk_lt c3)).trans c3) ((hY.cell (blk_lt c4)).trans c4)
theorem xfield_n (a b c : Int) (v1 v2 : Value) (o m : Option Addr) (on oc mn mc : Nat) (h1 : v1 = .slice o on oc) (h2 : v2 = .slice m mn mc) (W : World) : (Instr.field 26 (.agg #[.int .i64 a, .int .i64 b, .int .i64 c, v1, v2]) 0).run Tryz.prog W = .ok (.int .i64 a) W := by subst h1 h2; kernel_rfl
theorem xfield_b (a b c : Int) (v1 v2 : Value) (o m : Option Addr) (on oc mn mc : Nat) (h1 : v1 = .slice o on oc) (h2 : v2 = .slice m mn mc) (W : World) : (Instr.field 26 (.agg #[.int .i64 a, .int .i64 b, .int .i64 c, v1, v2]) 2).run Tryz.prog W = .ok (.int .i64 c) W := by subst h1 h2; kernel_rfl
set_option maxRecDepth 20000 in
theorem xfence_any {F : Nat → Prop} {base : Nat} {w : World} {p : Nat} {rv : Value} {gs : List Gn} (h : XG F base w p rv gs) (hl : gs.length ≤ 1000000) {g : Gn} (hg : gs[gs.length - 1]? = some g) (a : Int) :
    Calls Tryz.prog 21 #[.pointer (some ⟨p, 0, none⟩), .int .i64 a] w fun e w' => e = .returned (.int .i64 (if a < g.n then 18 else if g.n < a then 2 else 0)) ∧ Below w.heap.size w w' := by
  obtain ⟨oo, oc, mo, mc, -, -, CN⟩ := xnow_any h hl hg
  have CN' := hide CN
  have FN := fun W => xfield_n g.n g.eng g.base _ _ oo mo 0 oc g.ms.length mc rfl rfl W
  unfold xgV at CN'
  obtain ⟨n, hn⟩ : ∃ n, g.n = n := ⟨_, rfl⟩
  obtain ⟨z, hz⟩ : ∃ n, g.ms.length = n := ⟨_, rfl⟩
  rw [hn, hz] at CN' FN
  rw [hn]
  clear CN h hg hn hz
  by_cases h1 : a < n
  · rw [if_pos h1]
    go_enter Tryz.func21, Tryz.ntmps21
    go_wp2_with fail
    refine (unhide CN' _ (Below.refl _ _)).mono ?_
    rintro e w1 ⟨rfl, b1⟩
    have B1 := hide b1
    clear b1
    go_wp2
    go_ret
    exact ⟨rfl, unhide B1⟩
  · rw [if_neg h1]
    by_cases h2 : n < a
    · rw [if_pos h2]
      have h2' : a > n := h2
      go_enter Tryz.func21, Tryz.ntmps21
      go_wp2_with fail
      refine (unhide CN' _ (Below.refl _ _)).mono ?_
      rintro e w1 ⟨rfl, b1⟩
      have B1 := hide b1
      clear b1
      go_wp2_with fail
      refine (unhide CN' _ (unhide B1)).mono ?_
      rintro e w2 ⟨rfl, b2⟩
      have B2 := hide (below_far (unhide B1) b2)
      clear b2
      go_wp2
      go_ret
      exact ⟨rfl, unhide B2⟩
    · rw [if_neg h2]
      have h2' : ¬ a > n := h2
      go_enter Tryz.func21, Tryz.ntmps21
      go_wp2_with fail
      refine (unhide CN' _ (Below.refl _ _)).mono ?_
      rintro e w1 ⟨rfl, b1⟩
      have B1 := hide b1
      clear b1
      go_wp2_with fail
      refine (unhide CN' _ (unhide B1)).mono ?_
      rintro e w2 ⟨rfl, b2⟩
      have B2 := hide (below_far (unhide B1) b2)
      clear b2
      go_wp2
      go_ret
      exact ⟨rfl, unhide B2⟩
end Go.Proofs.YtgllokinadjiaaaGreatDoor

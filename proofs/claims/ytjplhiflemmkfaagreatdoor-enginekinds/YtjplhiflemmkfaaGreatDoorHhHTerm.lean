/- hist: Term, Newer, New: contracts. hist.numbers, hist.twin, hist.fits: contracts. -/
import Derived.Test.YtjplhiflemmkfaaGreatDoorHhNBase
import Derived.Deep.RegionHeldLaw
namespace Go.Proofs.YtjplhiflemmkfaaGreatDoor.Hh
open Go.RowKit Go.Maps

theorem aheadOf_in {b : Int} {rs : List Rw} {i : Int} (h : b < i ∧ i ≤ b + (rs.length : Int)) : aheadOf b rs i = (i - b - 1).toNat := by
  unfold aheadOf
  rw [if_neg (by omega)]
  omega

set_option maxHeartbeats 1000000 in
theorem term_any {D : Nat → Prop} {w : World} {p : Nat} {b : Int} {rs : List Rw} (h : Hs D w p b rs) (hf : Fit b rs) (i : Int) :
    Calls Tryz.prog 118 #[.pointer (some ⟨p, 0, none⟩), .int .i64 i] w fun e w' => e = .returned (.int .i64 (termOf b rs i)) ∧ Below w.heap.size w w' := by
  have HA := hide (has_any h hf i)
  have AH := hide (fun Y (hY : Below w.heap.size w Y) => ahead_any (h.below hY) hf i)
  have HH := hide h
  by_cases hi : b < i ∧ i ≤ b + (rs.length : Int)
  · obtain ⟨r, hr1, hr2⟩ := rowAt_some hi
    have ht : termOf b rs i = r.1 := by unfold termOf; rw [hr1]
    rw [ht]
    rw [decide_eq_true hi] at HA
    rw [aheadOf_in hi] at AH
    obtain ⟨k, hk⟩ : ∃ k, (i - b - 1).toNat = k := ⟨_, rfl⟩
    rw [hk] at AH hr2
    obtain ⟨t, ht'⟩ : ∃ t, r.1 = t := ⟨_, rfl⟩
    rw [ht']
    obtain ⟨⟨rv, hbx, hrr⟩, _, _⟩ := h
    obtain ⟨ao, cap, rfl, h1, h2, h3⟩ := hrr.slice
    have hkn : k < rs.length := (List.getElem?_eq_some_iff.1 hr2).1
    obtain ⟨n, hn⟩ : ∃ n, rs.length = n := ⟨_, rfl⟩
    rw [hn] at hkn hbx hrr h1
    obtain ⟨g, mo, mc, rfl, hg, hcl, _⟩ := hrr.at hr2
    have hc0 : w.cell? ⟨g, k * 7, none⟩ = some (.int .i64 t) := by rw [← ht']; exact hcl 0 _ rfl
    have HX := hide hbx
    have HC := hide hc0
    have hkI : (k : Int) < (n : Int) := by omega
    have hk0 : (0 : Int) ≤ (k : Int) := by omega
    clear hcl hrr hbx hc0 hr1 hr2 ht ht' hn hi hk h3 hg
    go_enter Tryz.func118, Tryz.ntmps118
    go_wp2_with fail
    refine (unhide HA).mono ?_
    rintro e w1 ⟨rfl, b1⟩
    have X1 := Below.stay b1 (unhide HX)
    have c1 : w1.drew.cell? ⟨p, 1, none⟩ = some (.slice (some ⟨g, 0, none⟩) n cap) := (cell_of_block (w := w1.drew) X1).trans rfl
    have A1 := hide (unhide AH w1.drew b1.drew)
    have B1 := hide b1
    have H1 := hide X1
    have C1 : Hid (w1.cell? ⟨g, k * 7, none⟩ = some (.int .i64 t)) := by show _ = _; rw [b1.cell (blk_lt (unhide HC))]; exact unhide HC
    clear b1 HA AH X1
    go_upto_region 3 with fail
    go_region_with (go_at_call 166; refine (unhide A1).mono ?_; rintro e w2 ⟨rfl, b2⟩; have c2 : w2.cell? ⟨p, 1, none⟩ = some (.slice (some ⟨g, 0, none⟩) n cap) := (cell_of_block (Below.stay b2 (unhide H1))).trans rfl; have d2 : w2.cell? ⟨g, k * 7, none⟩ = some (.int .i64 t) := (by rw [b2.cell (blk_lt (w := w1.drew) (unhide C1))]; exact unhide C1); have B2 := hide (below_far (unhide B1).drew b2); clear b2)
    all_goals go_wp2
    all_goals go_ret
    all_goals exact ⟨rfl, unhide B2⟩
  · have ht : termOf b rs i = 0 := by unfold termOf; rw [rowAt_none hi]
    rw [ht]
    rw [decide_eq_false hi] at HA
    clear ht hi AH HH h
    go_enter Tryz.func118, Tryz.ntmps118
    go_wp2_with fail
    refine (unhide HA).mono ?_
    rintro e w1 ⟨rfl, b1⟩
    have B1 := hide b1
    clear b1 HA
    go_wp2
    go_ret
    exact ⟨rfl, unhide B1⟩

set_option maxHeartbeats 1000000 in
theorem hnew_any (b : Int) (w : World) :
    Calls Tryz.prog 51 #[.int .i64 b] w fun e w' => e = .returned (.pointer (some ⟨w.heap.size, 0, none⟩)) ∧ Hs (fun k => k = w.heap.size) w' w.heap.size b [] ∧ Below w.heap.size w w' := by
  go_enter Tryz.func51, Tryz.ntmps51
  go_wp2
  go_ret
  exact ⟨rfl, ⟨⟨_, box_at _ _, RRow.nil _ _⟩, rfl, fun k hk => by subst hk; simp⟩, (Below.refl _ w).alloc (Nat.le_refl _) _⟩

set_option maxHeartbeats 1000000 in
theorem fits_any (i : Int) (n : Nat) (hi : -1000000000 ≤ i) (hn : n ≤ 1000000) (w : World) :
    Calls Tryz.prog 144 #[.int .i64 i, .int .i64 (n : Int)] w fun e w' => e = .returned (.bool (decide (i + (n : Int) ≤ 64))) ∧ w' = w := by
  by_cases h1 : i ≤ 64
  · have wr : IntKind.i64.wrap (i + (n : Int)) = i + (n : Int) := IntWalk.i64_in _ (by omega)
    obtain ⟨s, hs⟩ : ∃ s, i + (n : Int) = s := ⟨_, rfl⟩
    rw [hs] at wr ⊢
    have wr' : IntKind.i64.wrap (i + (n : Int)) = s := by rw [hs]; exact wr
    clear hs wr
    go_enter Tryz.func144, Tryz.ntmps144
    go_wp2
    go_ret
    exact ⟨rfl, rfl⟩
  · rw [decide_eq_false (by omega)]
    go_enter Tryz.func144, Tryz.ntmps144
    go_wp2
    go_ret
    exact ⟨rfl, rfl⟩
end Go.Proofs.YtjplhiflemmkfaaGreatDoor.Hh
namespace Go.Proofs.YtjplhiflemmkfaaGreatDoor.Hh
open Go.RowKit Go.Maps

set_option maxHeartbeats 1000000 in
theorem numbers_any (ao : Option Addr) (n cap : Nat) (ys : List Int) (hn : ys.length = n) (w : World) (hb : IntsR w ao ys) (hl : n ≤ 1000000) :
    Calls Tryz.prog 167 #[.slice ao n cap] w fun e w' => ∃ v, e = .returned v ∧ Ir w.heap.size w' v ys ∧ Below w.heap.size w w' := by
  have HB := hide hb
  have HN := hide hn
  have hl' : ([] : List Int).length + n ≤ 1000000000 := by simp; omega
  have HL := hide hl'
  clear hb hn hl'
  go_enter Tryz.func167, Tryz.ntmps167
  go_wp2_with (refine wpList_app rfl (.const (.slice none 0 0)) (.tmp 3) rfl w.heap.size (.slice none 0 0) [] rfl (Ir.nil _ _) ao n cap ys rfl (unhide HN) (unhide HB) (unhide HL) (Nat.le_refl _) ?_)
  intro v' w' ho hg
  have O := hide ho
  have B := hide ((Below.refl w.heap.size w).grown hg (Nat.le_refl _) (fun k hk => by simp [Value.ownBlock] at hk))
  clear ho hg
  go_wp2
  go_ret
  exact ⟨_, rfl, unhide O, unhide B⟩

/-- a store of a whole entry. -/
theorem six_end {w y : World} {B : Nat} {v0 v1 v2 v3 v4 v5 : Value} {z0 z1 z2 z3 z4 z5 : Value} {t : TypeId} (hz : y.heap[B]? = some (.cells #[z0, z1, z2, z3, z4, z5] t (0, 0))) (hB : w.heap.size ≤ B) (hb : Below w.heap.size w y) (W : World)
    (hW : W = ((((((y.setCell ⟨B, 0, none⟩ v0).setCell ⟨B, 1, none⟩ v1).setCell ⟨B, 2, none⟩ v2).setCell ⟨B, 3, none⟩ v3).setCell ⟨B, 4, none⟩ v4).setCell ⟨B, 5, none⟩ v5)) :
    W.cell? ⟨B, 0, none⟩ = some v0 ∧ W.cell? ⟨B, 1, none⟩ = some v1 ∧ W.cell? ⟨B, 2, none⟩ = some v2 ∧ W.cell? ⟨B, 3, none⟩ = some v3 ∧ W.cell? ⟨B, 4, none⟩ = some v4 ∧ W.cell? ⟨B, 5, none⟩ = some v5 ∧ Below w.heap.size w W ∧ ∀ k, k ≠ B → W.heap[k]? = y.heap[k]? := by
  have hh : W.heap[B]? = some (.cells #[v0, v1, v2, v3, v4, v5] t (0, 0)) := by
    rw [hW]
    exact setCell_block (setCell_block (setCell_block (setCell_block (setCell_block (setCell_block hz)))))
  refine ⟨(cell_of_block hh).trans rfl, (cell_of_block hh).trans rfl, (cell_of_block hh).trans rfl, (cell_of_block hh).trans rfl, (cell_of_block hh).trans rfl, (cell_of_block hh).trans rfl, ?_, fun k hk => ?_⟩
  · rw [hW]
    exact (((((hb.setCell (p := ⟨B, 0, none⟩) hB v0).setCell (p := ⟨B, 1, none⟩) hB v1).setCell (p := ⟨B, 2, none⟩) hB v2).setCell (p := ⟨B, 3, none⟩) hB v3).setCell (p := ⟨B, 4, none⟩) hB v4).setCell (p := ⟨B, 5, none⟩) hB v5
  · rw [hW, Below.heap_setCell _ _ _ k hk, Below.heap_setCell _ _ _ k hk, Below.heap_setCell _ _ _ k hk, Below.heap_setCell _ _ _ k hk, Below.heap_setCell _ _ _ k hk, Below.heap_setCell _ _ _ k hk]
theorem Ir.other {base B : Nat} {y W : World} {v : Value} {ys : List Int} (h : Ir base y v ys) (hk : ∀ k, k ≠ B → W.heap[k]? = y.heap[k]?) {cs : Array Value} {t : TypeId} {fr : Nat × Nat} (hB : y.heap[B]? = some (.cells cs t fr)) (ht : t ≠ 3) : Ir base W v ys :=
  own_kept h fun k e => hk k (fun x => by
    subst x
    obtain ⟨_, cur, fr', hc⟩ := own_tag h k e
    rw [hB] at hc; cases hc; exact ht rfl)

set_option maxRecDepth 20000 in
set_option maxHeartbeats 1000000 in
theorem htwin_any (e : En) (mo : Option Addr) (cap : Nat) (w : World) (hb : IntsR w mo e.ms) (hl : e.ms.length ≤ 1000000) :
    Calls Tryz.prog 165 #[.agg #[.int .i64 e.kind, .int .i64 e.client, .int .i64 e.seq, .string e.text, .slice mo e.ms.length cap, .int .i64 e.dest]] w fun x w' =>
      ∃ mv, x = .returned (.agg #[.int .i64 e.kind, .int .i64 e.client, .int .i64 e.seq, .string e.text, mv, .int .i64 e.dest]) ∧ Ir w.heap.size w' mv e.ms ∧ Below w.heap.size w w' := by
  obtain ⟨kind, client, seq, text, ms, dest⟩ := e
  simp only at hb hl ⊢
  obtain ⟨n, hn⟩ : ∃ n, ms.length = n := ⟨_, rfl⟩
  rw [hn] at hl ⊢
  obtain ⟨W0, hW0⟩ : ∃ W, w.alloc (.cells #[.int .i64 kind, .int .i64 client, .int .i64 seq, .string text, .slice mo n cap, .int .i64 dest] 43) = W := ⟨_, rfl⟩
  obtain ⟨W, hW⟩ : ∃ W, W0.alloc (.cells #[.int .i64 0, .int .i64 0, .int .i64 0, .string ⟨#[]⟩, .slice none 0 0, .int .i64 0] 43) = W := ⟨_, rfl⟩
  have s0 : W0.heap.size = w.heap.size + 1 := by rw [← hW0]; simp
  have b0 : Below w.heap.size w W0 := by rw [← hW0]; exact (Below.refl _ w).alloc (Nat.le_refl _) _
  have b1 : Below W0.heap.size W0 W := by rw [← hW]; exact (Below.refl _ W0).alloc (Nat.le_refl _) _
  have bW := below_far b0 b1
  have x0 : W.heap[w.heap.size]? = some (.cells #[.int .i64 kind, .int .i64 client, .int .i64 seq, .string text, .slice mo n cap, .int .i64 dest] 43 (0, 0)) := Below.stay b1 (by rw [← hW0]; exact box_at _ _)
  have x1 : W.heap[w.heap.size + 1]? = some (.cells #[.int .i64 0, .int .i64 0, .int .i64 0, .string ⟨#[]⟩, .slice none 0 0, .int .i64 0] 43 (0, 0)) := by rw [← s0, ← hW]; exact box_at _ _
  have C := hide (numbers_any mo n cap ms hn W (hb.below bW) hl)
  have HW : Hid ((w.alloc (.cells #[.int .i64 kind, .int .i64 client, .int .i64 seq, .string text, .slice mo n cap, .int .i64 dest] 43)).alloc (.cells #[.int .i64 0, .int .i64 0, .int .i64 0, .string ⟨#[]⟩, .slice none 0 0, .int .i64 0] 43) = W) := by rw [hW0]; exact hW
  have a4 : W.cell? ⟨w.heap.size, 4, none⟩ = some (.slice mo n cap) := (cell_of_block x0).trans rfl
  have BW := hide bW
  have X0 := hide x0
  have X1 := hide x1
  clear hW hW0 s0 b0 b1 bW x0 x1 hb hn
  go_enter Tryz.func165, Tryz.ntmps165
  go_wp2_with fail
  rw [unhide HW]
  go_wp2_with fail
  refine (unhide C).mono ?_
  rintro x w1 ⟨mv, rfl, o1, b1⟩
  have h0 := Below.stay b1 (unhide X0)
  have h1 := Below.stay b1 (unhide X1)
  have B1 := hide (below_far (unhide BW) b1)
  have S1 := (unhide BW).size
  have O1 := hide o1
  have f4 : w1.frozen? ⟨w.heap.size, 4, none⟩ = false := free_of_block h0
  have a4' : w1.cell? ⟨w.heap.size, 4, none⟩ = some (.slice mo n cap) := (cell_of_block h0).trans rfl
  have H0 := hide h0
  have H1 := hide h1
  clear h0 h1 b1 o1 C a4 X0 X1 BW
  obtain ⟨Y, hY⟩ : ∃ Y, w1.setCell ⟨w.heap.size, 4, none⟩ mv = Y := ⟨_, rfl⟩
  have y0 : Y.heap[w.heap.size]? = some (.cells #[.int .i64 kind, .int .i64 client, .int .i64 seq, .string text, mv, .int .i64 dest] 43 (0, 0)) := by rw [← hY]; exact setCell_block (unhide H0)
  have hkY : ∀ k, k ≠ w.heap.size → Y.heap[k]? = w1.heap[k]? := fun k hk => by rw [← hY]; exact Below.heap_setCell _ _ _ k hk
  have y1 := (hkY (w.heap.size + 1) (by omega)).trans (unhide H1)
  have bY : Below w.heap.size w Y := by rw [← hY]; exact (unhide B1).setCell (p := ⟨w.heap.size, 4, none⟩) (Nat.le_refl _) _
  have oY : Ir W.heap.size Y mv ms := (unhide O1).other hkY (unhide H0) (by decide)
  have k0 : Y.cell? ⟨w.heap.size, 0, none⟩ = some (.int .i64 kind) := (cell_of_block y0).trans rfl
  have k1 : Y.cell? ⟨w.heap.size, 1, none⟩ = some (.int .i64 client) := (cell_of_block y0).trans rfl
  have k2 : Y.cell? ⟨w.heap.size, 2, none⟩ = some (.int .i64 seq) := (cell_of_block y0).trans rfl
  have k3 : Y.cell? ⟨w.heap.size, 3, none⟩ = some (.string text) := (cell_of_block y0).trans rfl
  have k4 : Y.cell? ⟨w.heap.size, 4, none⟩ = some mv := (cell_of_block y0).trans rfl
  have k5 : Y.cell? ⟨w.heap.size, 5, none⟩ = some (.int .i64 dest) := (cell_of_block y0).trans rfl
  have z0 : Y.cell? ⟨w.heap.size + 1, 0, none⟩ = some (.int .i64 0) := (cell_of_block y1).trans rfl
  have z1 : Y.cell? ⟨w.heap.size + 1, 1, none⟩ = some (.int .i64 0) := (cell_of_block y1).trans rfl
  have z2 : Y.cell? ⟨w.heap.size + 1, 2, none⟩ = some (.int .i64 0) := (cell_of_block y1).trans rfl
  have z3 : Y.cell? ⟨w.heap.size + 1, 3, none⟩ = some (.string ⟨#[]⟩) := (cell_of_block y1).trans rfl
  have z4 : Y.cell? ⟨w.heap.size + 1, 4, none⟩ = some (.slice none 0 0) := (cell_of_block y1).trans rfl
  have z5 : Y.cell? ⟨w.heap.size + 1, 5, none⟩ = some (.int .i64 0) := (cell_of_block y1).trans rfl
  have fz : ∀ i, Y.frozen? ⟨w.heap.size + 1, i, none⟩ = false := fun i => free_of_block y1
  have Y1 := hide y1
  have BY := hide bY
  have OY := hide oY
  have HY := hide hY
  clear y0 y1 bY oY hY hkY H0 H1 O1
  obtain ⟨mo', mcap, rfl, _⟩ := (unhide OY).slice
  go_upto_region 2 with fail
  rw [unhide HY]
  go_wp2
  obtain ⟨V, hV⟩ : ∃ V : World, V = ((((((Y.setCell ⟨w.heap.size + 1, 0, none⟩ (.int .i64 kind)).setCell ⟨w.heap.size + 1, 1, none⟩ (.int .i64 client)).setCell ⟨w.heap.size + 1, 2, none⟩ (.int .i64 seq)).setCell ⟨w.heap.size + 1, 3, none⟩ (.string text)).setCell ⟨w.heap.size + 1, 4, none⟩ (.slice mo' ms.length mcap)).setCell ⟨w.heap.size + 1, 5, none⟩ (.int .i64 dest)) := ⟨_, rfl⟩
  rw [← hV]
  obtain ⟨d0, d1, d2, d3, d4, d5, bV, kV⟩ := six_end (unhide Y1) (Nat.le_succ _) (unhide BY) V hV
  refine bodyPost_ret (v := .agg #[.int .i64 kind, .int .i64 client, .int .i64 seq, .string text, .slice mo' ms.length mcap, .int .i64 dest]) (by simp [results, Tryz.results165, go_sem, d0, d1, d2, d3, d4, d5]) rfl ⟨_, rfl, ?_, bV⟩
  have h5 := (unhide OY).other kV (unhide Y1) (by decide)
  refine ⟨h5.1, ?_⟩
  rcases h5.2 with e | ⟨g, cp, cur, e1, e2, e3⟩
  · exact Or.inl e
  · exact Or.inr ⟨g, cp, cur, e1, Nat.le_trans S1 e2, e3⟩
end Go.Proofs.YtjplhiflemmkfaaGreatDoor.Hh

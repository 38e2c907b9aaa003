/- synodallaw10.near: a contract. -/
import Derived.Test.YtmgdkbpbmngibaaHXPutA
import Derived.Test.YtmgdkbpbmngibaaHWithin
import Derived.Laws.OwnMore
import Derived.Deep.DeepCutAuto
import Derived.Deep.CutBlock
namespace Go.Proofs.Ytmgdkbpbmngibaa
open Go.RowKit Go.Maps
attribute [local go_sem ↓] Go.wp_at_zero Go.wp_at_succ

theorem bl_two (w : World) (o o' : Obj) : Below w.heap.size w ((w.alloc o).alloc o') := ((Below.refl _ w).alloc (Nat.le_refl _) o).alloc (by rw [two_sizes]; exact Nat.le_succ _) o'
theorem Ir.stored {base : Nat} {w : World} {g m ct : Nat} {ts : List Int} (h : Ir base w (.slice (some ⟨g, 0, none⟩) m ct) ts) (hm : ts.length = m) (j : Nat) (y : Int) : Ir base (w.setCell ⟨g, j, none⟩ (.int .i64 y)) (.slice (some ⟨g, 0, none⟩) m ct) (ts.set j y) := by
  subst hm
  have := (World.ownsRow.stored h j (.int .i64 y)).1
  unfold Ir
  rw [List.length_set, show i64s (ts.set j y) = (i64s ts).set j (.int .i64 y) by unfold i64s; rw [List.map_set]]
  exact this
abbrev boxC (put : Bool) (i t : Int) (tv ev : Value) : Obj := .cells #[.bool put, .int .i64 i, .int .i64 t, tv, ev] 37
abbrev boxZ : Obj := .cells #[.bool false, .int .i64 0, .int .i64 0, .slice none 0 0, .slice none 0 0] 37
/-- near's two boxes, and what is kept. -/
structure Nb (T : Nat → Prop) (w wr : World) (put : Bool) (i t : Int) (tv ev : Value) : Prop where
  c : wr.heap[w.heap.size]? = some (boxC put i t tv ev)
  z : wr.heap[w.heap.size + 1]? = some boxZ
  k : Kp T w wr
theorem five_cells {w : World} {p : Nat} {a b c d e : Value} {t : TypeId} {fr : Nat × Nat} (h : w.heap[p]? = some (.cells #[a, b, c, d, e] t fr)) : w.cell? ⟨p, 0, none⟩ = some a ∧ w.cell? ⟨p, 1, none⟩ = some b ∧ w.cell? ⟨p, 2, none⟩ = some c ∧ w.cell? ⟨p, 3, none⟩ = some d ∧ w.cell? ⟨p, 4, none⟩ = some e :=
  ⟨(cell_of_block h).trans rfl, (cell_of_block h).trans rfl, (cell_of_block h).trans rfl, (cell_of_block h).trans rfl, (cell_of_block h).trans rfl⟩
def five (y : World) (q : Nat) (v0 v1 v2 v3 v4 : Value) : World := ((((y.setCell ⟨q, 0, none⟩ v0).setCell ⟨q, 1, none⟩ v1).setCell ⟨q, 2, none⟩ v2).setCell ⟨q, 3, none⟩ v3).setCell ⟨q, 4, none⟩ v4
theorem five_box {y : World} {q : Nat} {a0 a1 a2 a3 a4 : Value} {t : TypeId} {fr : Nat × Nat} (h : y.heap[q]? = some (.cells #[a0, a1, a2, a3, a4] t fr)) (v0 v1 v2 v3 v4 : Value) : (five y q v0 v1 v2 v3 v4).heap[q]? = some (.cells #[v0, v1, v2, v3, v4] t fr) := by
  have z0 : (y.setCell ⟨q, 0, none⟩ v0).heap[q]? = some (.cells #[v0, a1, a2, a3, a4] t fr) := setCell_block (p := q) (i := 0) h
  have z1 : ((y.setCell ⟨q, 0, none⟩ v0).setCell ⟨q, 1, none⟩ v1).heap[q]? = some (.cells #[v0, v1, a2, a3, a4] t fr) := setCell_block (p := q) (i := 1) z0
  have z2 : (((y.setCell ⟨q, 0, none⟩ v0).setCell ⟨q, 1, none⟩ v1).setCell ⟨q, 2, none⟩ v2).heap[q]? = some (.cells #[v0, v1, v2, a3, a4] t fr) := setCell_block (p := q) (i := 2) z1
  have z3 : ((((y.setCell ⟨q, 0, none⟩ v0).setCell ⟨q, 1, none⟩ v1).setCell ⟨q, 2, none⟩ v2).setCell ⟨q, 3, none⟩ v3).heap[q]? = some (.cells #[v0, v1, v2, v3, a4] t fr) := setCell_block (p := q) (i := 3) z2
  exact setCell_block (p := q) (i := 4) z3
theorem five_other {y : World} {q : Nat} (v0 v1 v2 v3 v4 : Value) {c : Nat} (hc : c ≠ q) : (five y q v0 v1 v2 v3 v4).heap[c]? = y.heap[c]? := by
  unfold five
  rw [Below.heap_setCell _ _ _ _ hc, Below.heap_setCell _ _ _ _ hc, Below.heap_setCell _ _ _ _ hc, Below.heap_setCell _ _ _ _ hc, Below.heap_setCell _ _ _ _ hc]
theorem five_kp {y : World} {q : Nat} (v0 v1 v2 v3 v4 : Value) : Kp (fun c => c = q) y (five y q v0 v1 v2 v3 v4) :=
  ((((Kp.setCell (D := fun c => c = q) (p := ⟨q, 0, none⟩) (Kp.refl _ y) rfl v0).setCell (p := ⟨q, 1, none⟩) rfl v1).setCell (p := ⟨q, 2, none⟩) rfl v2).setCell (p := ⟨q, 3, none⟩) rfl v3).setCell (p := ⟨q, 4, none⟩) rfl v4
theorem Nb.below {T : Nat → Prop} {w wr wz : World} {put : Bool} {i t : Int} {tv ev : Value} (h : Nb T w wr put i t tv ev) (hb : Below wr.heap.size wr wz) : Nb T w wz put i t tv ev :=
  ⟨Below.stay hb h.c, Below.stay hb h.z, h.k.far hb⟩
theorem Nb.set {T : Nat → Prop} {w wr : World} {put : Bool} {i t : Int} {tv ev : Value} (h : Nb T w wr put i t tv ev) (j : Nat) (u : Value) {i' t' : Int} {tv' ev' : Value} (hu : (#[.bool put, .int .i64 i, .int .i64 t, tv, ev] : Array Value).setIfInBounds j u = #[.bool put, .int .i64 i', .int .i64 t', tv', ev']) :
    Nb T w (wr.setCell ⟨w.heap.size, j, none⟩ u) put i' t' tv' ev' := by
  refine ⟨?_, ?_, ?_⟩
  · have := setCell_block (i := j) (u := u) h.c
    rw [hu] at this; exact this
  · rw [Below.heap_setCell _ _ _ _ (by show w.heap.size + 1 ≠ w.heap.size; omega)]; exact h.z
  · refine h.k.trans (E := fun k => k = w.heap.size) (Kp.setCell (D := fun k => k = w.heap.size) (p := ⟨w.heap.size, j, none⟩) (Kp.refl _ wr) rfl u) (fun c hc e => by omega)
theorem Nb.row {T : Nat → Prop} {w wr : World} {put : Bool} {i t : Int} {tv ev : Value} (h : Nb T w wr put i t tv ev) {g : Nat} (hg : T g) (hl : g < w.heap.size) (j : Nat) (u : Value) : Nb T w (wr.setCell ⟨g, j, none⟩ u) put i t tv ev :=
  ⟨(Below.heap_setCell _ _ _ _ (by show w.heap.size ≠ g; omega)).trans h.c, (Below.heap_setCell _ _ _ _ (by show w.heap.size + 1 ≠ g; omega)).trans h.z, h.k.setCell (p := ⟨g, j, none⟩) hg u⟩

/-- what near answers: a call whose terms and entries are as many. -/
def NearOut (b2 : Nat) (w : World) (put : Bool) (at' : Option Addr) (m ct : Nat) (ae : Option Addr) (n ce : Nat) (x : Ending) (w' : World) : Prop :=
  ∃ i' t' ts', x = .returned (.agg #[.bool put, .int .i64 i', .int .i64 t', .slice at' (min m n) ct, .slice ae (min m n) ce]) ∧ ts'.length = m ∧ Ir b2 w' (.slice at' m ct) ts' ∧ Kp (fun k => (Value.slice at' m ct).ownBlock = some k) w w'

set_option maxRecDepth 1000000 in
set_option maxHeartbeats 8000000 in
theorem near_any {base b2 : Nat} {D : Nat → Prop} {w : World} {p : Nat} {b : Int} {rs : List Rw} (hx : Xs base D w p b rs) (hf : Fit b rs) (put : Bool) (i t : Int) (at' : Option Addr) (m ct : Nat) (ts : List Int) (hm : ts.length = m) (hm6 : m ≤ 80) (hT : Ir b2 w (.slice at' m ct) ts)
    (hTD : ∀ k, (Value.slice at' m ct).ownBlock = some k → ¬ D k) (hTb : ∀ k, (Value.slice at' m ct).ownBlock = some k → base ≤ k) (ae : Option Addr) (n ce : Nat) (hn6 : n ≤ 80) (hce : n ≤ ce) (_hcm : ce ≤ maxLen) :
    Calls Try.prog 14 #[.agg #[.bool put, .int .i64 i, .int .i64 t, .slice at' m ct, .slice ae n ce], .pointer (some ⟨p, 0, none⟩)] w (NearOut b2 w put at' m ct ae n ce) := by
  have hct : m ≤ ct ∧ ct ≤ maxLen := by obtain ⟨_, c', e, _, h1, h2⟩ := hT.slice; cases e; omega
  have hTl : ∀ k, (Value.slice at' m ct).ownBlock = some k → k < w.heap.size := fun k hk => (hT.lt k hk).2
  obtain ⟨T, hTT⟩ : ∃ T : Nat → Prop, (fun k => (Value.slice at' m ct).ownBlock = some k) = T := ⟨_, rfl⟩
  have HTT : Hid (∀ k, (Value.slice at' m ct).ownBlock = some k ↔ T k) := fun k => by rw [← hTT]
  obtain ⟨W1, hW1⟩ : ∃ W1, (w.alloc (boxC put i t (.slice at' m ct) (.slice ae n ce))).alloc boxZ = W1 := ⟨_, rfl⟩
  have bW1 : Below w.heap.size w W1 := by rw [← hW1]; exact bl_two w _ _
  have nb1 : Nb T w W1 put i t (.slice at' m ct) (.slice ae n ce) := ⟨by rw [← hW1]; exact (at_two w _ _).1, by rw [← hW1]; exact (at_two w _ _).2, Kp.of_below bW1⟩
  have XX := hide (fun (Y : World) (hY : Kp T w Y) => hx.kp hY (fun k hk x => hTD k ((unhide HTT k).2 x) hk) (fun k x => hTb k ((unhide HTT k).2 x)))
  have HF := hide hf
  have HT1 := hide (hT.below bW1)
  have HM := hide hm
  have HTL := hide hTl
  have NB := hide nb1
  have HW1 := hide hW1
  have CT : Hid (m ≤ ct ∧ ct ≤ maxLen) := hct
  have hct' : (m : Int) ≤ (ct : Int) := by omega
  have hce' : (n : Int) ≤ (ce : Int) := by omega
  have HTE := hide hTT
  clear hx hf hT hTD hTb hm hTl hTT bW1 nb1 hW1 hct
  go_enter Try.func14, Try.ntmps14
  go_upto_region 1 with fail
  rw [show (w.alloc (.cells #[.bool put, .int .i64 i, .int .i64 t, .slice at' m ct, .slice ae n ce] 37)).alloc (.cells #[.bool false, .int .i64 0, .int .i64 0, .slice none 0 0, .slice none 0 0] 37) = W1 from unhide HW1]
  clear HW1
  go_cut [18] (fun _ wc => ∃ i', Nb T w wc put i' t (.slice at' m ct) (.slice ae n ce) ∧ Ir b2 wc (.slice at' m ct) ts)
  case first =>
    obtain ⟨c0, c1, c2, c3, c4⟩ := five_cells (unhide NB).c
    have PB := hide (fun (Y : World) (hY : Below W1.heap.size W1 Y) => show Y.cell? ⟨p, 0, none⟩ = some (.int .i64 b) by
      obtain ⟨⟨tv, ev, x1, _⟩, _⟩ := unhide XX Y ((unhide NB).k.far hY)
      exact (three_cells x1).1)
    have LA := hide (xlast_any (unhide XX W1.drew ((unhide NB).k.far (Below.refl _ W1).drew)) (unhide HF))
    obtain ⟨L, hL⟩ : ∃ L, b + (rs.length : Int) = L := ⟨_, rfl⟩
    have hLb : 0 ≤ L ∧ L ≤ 2000000 := by have := (unhide HF).b0; have := (unhide HF).b1; have := (unhide HF).n1; omega
    rw [hL] at LA
    have q0 := Int.emod_nonneg i (show (6 : Int) ≠ 0 by decide)
    have q1 := Int.emod_lt_of_pos i (show (0 : Int) < 6 by decide)
    have WI := hide (fun Y => within_any i 6 Y (by decide) (by decide))
    obtain ⟨c, hc⟩ : ∃ c, i % 6 = c := ⟨_, rfl⟩
    rw [hc] at WI q0 q1
    have wlc : IntKind.i64.wrap (L - c) = L - c := IntWalk.i64_in _ (by omega)
    have a0 : W1.drew.cell? ⟨p, 0, none⟩ = some (.int .i64 b) := unhide PB W1.drew (Below.refl _ W1).drew
    have a1 : W1.drew.cell? ⟨w.heap.size, 1, none⟩ = some (.int .i64 i) := c1
    clear hL hc c0 c1 c2 c3 c4
    go_region_with (first
      | (go_at_call 18; refine (unhide LA).mono ?_; rintro e z1 ⟨rfl, bz⟩
         have BZ := hide (below_far ((Below.refl _ W1).drew) bz)
         have d0 := unhide PB z1 (unhide BZ)
         have d1 := (five_cells ((unhide NB).below (unhide BZ)).c).2.1
         have d2 : z1.frozen? ⟨w.heap.size, 1, none⟩ = false := free_of_block ((unhide NB).below (unhide BZ)).c
         clear bz)
      | (go_at_call 11; refine (unhide WI _).mono ?_; rintro e zz ⟨rfl, hw⟩; replace hw := hw.symm; subst hw))
    all_goals go_wp2_with fail
    all_goals go_meet
    all_goals exact ⟨_, ((unhide NB).below (unhide BZ)).set 1 _ rfl, ((unhide HT1).below (unhide BZ)).other (fun k hk => Below.heap_setCell _ _ _ k hk) ((unhide NB).below (unhide BZ)).c (by decide)⟩
  case rest =>
    obtain ⟨i', nb, it⟩ := hcut
    have NB2 := hide nb
    have IT2 := hide it
    obtain ⟨y1, hy1⟩ : ∃ y1, y1 = wc := ⟨_, rfl⟩
    subst hy1
    obtain ⟨c0, c1, c2, c3, c4⟩ := five_cells nb.c
    have TE := hide (xterm_any (unhide XX y1 nb.k) (unhide HF) i')
    obtain ⟨t', ht'⟩ : ∃ t', termOf b rs i' = t' := ⟨_, rfl⟩
    rw [ht'] at TE
    clear nb it c0 c2 c3 c4 HT1 ht' NB
    go_wp2_with fail
    refine (unhide TE).mono ?_
    rintro e y2 ⟨rfl, b2'⟩
    have nb2 := (unhide NB2).below b2'
    have it2 := (unhide IT2).below b2'
    have d1 := (five_cells nb2.c).2.2.1
    have d2 : y2.frozen? ⟨w.heap.size, 2, none⟩ = false := free_of_block nb2.c
    have NB3 := hide (nb2.set 2 (.int .i64 t') (i' := i') (t' := t') (tv' := .slice at' m ct) (ev' := .slice ae n ce) rfl)
    have IT3 := hide (it2.other (B := w.heap.size) (W := y2.setCell ⟨w.heap.size, 2, none⟩ (.int .i64 t')) (fun k hk => Below.heap_setCell _ _ _ k hk) nb2.c (by decide))
    obtain ⟨y3, hy3⟩ : ∃ y3, y2.setCell ⟨w.heap.size, 2, none⟩ (.int .i64 t') = y3 := ⟨_, rfl⟩
    rw [hy3] at NB3 IT3
    have HY3 := hide hy3
    have d3 := (five_cells (unhide NB3).c).2.2.1
    clear nb2 it2 b2' TE NB2 IT2 hy3 c1
    go_upto_region 3 with fail
    rw [unhide HY3]
    clear HY3 d1 d2
    go_cut [5] (fun v5 wc => ∃ a0 : Int, v5 = .int .i64 a0 ∧ wc = y3)
    case first =>
      go_wp2_with fail
      all_goals go_meet
      all_goals exact ⟨_, rfl, rfl⟩
    case rest =>
      obtain ⟨a0, rfl, rfl⟩ := hcut
      clear d3
      go_wp2_with fail
      go_loopw [6, 5] (fun iv av wr => ∃ (k : Nat) (a : Int) (us : List Int), k ≤ m ∧ iv = .int .i64 (k : Int) ∧ av = .int .i64 a ∧ us.length = m ∧ Nb T w wr put i' t' (.slice at' m ct) (.slice ae n ce) ∧ Ir b2 wr (.slice at' m ct) us) (fun iv _ _ => m - (intOf iv).toNat)
      case atStart => exact ⟨0, a0, ts, Nat.zero_le _, rfl, rfl, unhide HM, unhide NB3, unhide IT3⟩
      case round =>
        obtain ⟨k, a, us, hk, rfl, rfl, hus, hnb, hir⟩ := hrel
        have NB4 := hide hnb
        have IR4 := hide hir
        have HUS := hide hus
        obtain ⟨e0, e1, e2, e3, e4⟩ := five_cells hnb.c
        clear hnb hir hus e0 e1 e2
        by_cases hlt : k < m
        · obtain ⟨ao', c', ee, hfr, -, -⟩ := (unhide IR4).slice
          simp only [Value.slice.injEq] at ee
          obtain ⟨rfl, -, rfl⟩ := ee
          obtain ⟨ad, rfl, hc⟩ := hfr.1 k (by rw [unhide HUS]; exact hlt)
          obtain ⟨g, og, rfl⟩ := hfr.2 ad rfl
          obtain rfl : og = 0 := by
            rcases (unhide IR4).2 with ⟨q, _⟩ | ⟨_, _, _, q, _⟩
            · cases q
            · simp only [Value.slice.injEq, Option.some.injEq, Addr.mk.injEq] at q; exact q.1.2.1
          rw [Addr.add_lit, Nat.zero_add] at hc
          obtain ⟨y, hy⟩ : ∃ y, us.getD k 0 = y := ⟨_, rfl⟩
          rw [hy] at hc
          have WJ := hide (within_any y 2 wr (by decide) (by decide))
          obtain ⟨c, hcc⟩ : ∃ c, y % 2 = c := ⟨_, rfl⟩
          rw [hcc] at WJ
          have hTg : T g := (unhide HTT g).1 rfl
          have hfz : wr.frozen? ⟨g, k, none⟩ = false := by
            have h4 := unhide IR4
            unfold Ir at h4
            rw [unhide HUS] at h4
            exact World.ownsRow.frozenAt h4 k
          obtain ⟨a', ha'⟩ : ∃ a', IntKind.i64.wrap (a + c) = a' := ⟨_, rfl⟩
          have NB5 := hide ((unhide NB4).row hTg (unhide HTL g rfl) k (.int .i64 a'))
          have IR5 := hide ((unhide IR4).stored (unhide HUS) k a')
          have qk : (k : Int) < (m : Int) := by omega
          clear hfr hy hcc hTg
          go_wp2_with fail
          refine (unhide WJ).mono ?_
          rintro e zz ⟨rfl, hw⟩
          replace hw := hw.symm
          subst hw
          clear WJ
          go_wp2
          go_roundw
          case rel => exact ⟨k + 1, a', us.set k a', by omega, by go_num, rfl, by rw [List.length_set]; exact unhide HUS, unhide NB5, unhide IR5⟩
          case measure => simp [intOf]; omega
        · obtain rfl : k = m := by omega
          have f4 : wr.frozen? ⟨w.heap.size, 4, none⟩ = false := free_of_block (unhide NB4).c
          have f3 : wr.frozen? ⟨w.heap.size, 3, none⟩ = false := free_of_block (unhide NB4).c
          by_cases hnk : k < n
          · have qn : (k : Int) < (n : Int) := by omega
            have mk : min k n = k := by omega
            have z1 : (0 : Int) ≤ (k : Int) := by omega
            have z2 : (k : Int) ≤ (ce : Int) := by omega
            have nb5 := (unhide NB4).set 4 (.slice ae k ce) (i' := i') (t' := t') (tv' := .slice at' k ct) (ev' := .slice ae k ce) rfl
            have ir5 := (unhide IR4).other (B := w.heap.size) (W := wr.setCell ⟨w.heap.size, 4, none⟩ (.slice ae k ce)) (fun c hc => Below.heap_setCell _ _ _ c hc) (unhide NB4).c (by decide)
            obtain ⟨y5, hy5⟩ : ∃ y5, wr.setCell ⟨w.heap.size, 4, none⟩ (.slice ae k ce) = y5 := ⟨_, rfl⟩
            rw [hy5] at nb5 ir5
            have nb6 := nb5.set 3 (.slice at' k ct) (i' := i') (t' := t') (tv' := .slice at' k ct) (ev' := .slice ae k ce) rfl
            have ir6 := ir5.other (B := w.heap.size) (W := y5.setCell ⟨w.heap.size, 3, none⟩ (.slice at' k ct)) (fun c hc => Below.heap_setCell _ _ _ c hc) nb5.c (by decide)
            obtain ⟨y6, hy6⟩ : ∃ y6, y5.setCell ⟨w.heap.size, 3, none⟩ (.slice at' k ct) = y6 := ⟨_, rfl⟩
            rw [hy6] at nb6 ir6
            obtain ⟨-, -, -, g3, g4⟩ := five_cells nb5.c
            have fg : y5.frozen? ⟨w.heap.size, 3, none⟩ = false := free_of_block nb5.c
            have HY5 := hide hy5
            have HY6 := hide hy6
            have NB6 := hide nb6
            have IR6 := hide ir6
            clear nb5 ir5 nb6 ir6 hy5 hy6
            go_upto_region 11 with fail
            rw [unhide HY5]
            go_upto_region 12 with fail
            rw [unhide HY6]
            clear HY5 HY6 e3 e4 f3 f4 g3 g4 fg
            obtain ⟨h0, h1, h2, h3, h4⟩ := five_cells (unhide NB6).c
            obtain ⟨k0, k1, k2, k3, k4⟩ := five_cells (unhide NB6).z
            have kf : ∀ j, y6.frozen? ⟨w.heap.size + 1, j, none⟩ = false := fun j => free_of_block (unhide NB6).z
            have kf0 := kf 0
            have kf1 := kf 1
            have kf2 := kf 2
            have kf3 := kf 3
            have kf4 := kf 4
            obtain ⟨V, hV⟩ : ∃ V, five y6 (w.heap.size + 1) (.bool put) (.int .i64 i') (.int .i64 t') (.slice at' k ct) (.slice ae k ce) = V := ⟨_, rfl⟩
            have vb := five_box (unhide NB6).z (.bool put) (.int .i64 i') (.int .i64 t') (.slice at' k ct) (.slice ae k ce)
            rw [hV] at vb
            obtain ⟨r0, r1, r2, r3, r4⟩ := five_cells vb
            have FK : Hid (Kp T w V) := by
              rw [← hV]
              exact (unhide NB6).k.trans (E := fun c => c = w.heap.size + 1) (five_kp _ _ _ _ _) (fun c hc e => by omega)
            have FI : Hid (Ir b2 V (.slice at' k ct) us) := by
              rw [← hV]
              exact (unhide IR6).other (B := w.heap.size + 1) (fun c hc => five_other _ _ _ _ _ hc) (unhide NB6).z (by decide)
            have HV := hide hV
            clear kf vb hV
            go_wp2
            try simp only [Exit.inBlock, Exit.then]
            change bodyPost _ _ _ _ _ (five y6 (w.heap.size + 1) (.bool put) (.int .i64 i') (.int .i64 t') (.slice at' k ct) (.slice ae k ce))
            rw [unhide HV]
            refine bodyPost_ret (v := .agg #[.bool put, .int .i64 i', .int .i64 t', .slice at' k ct, .slice ae k ce]) (by simp [results, Try.results14, go_sem, r0, r1, r2, r3, r4]) rfl ?_
            exact ⟨i', t', us, by rw [mk], unhide HUS, unhide FI, by rw [unhide HTE]; exact unhide FK⟩
          · have qn : ¬ (k : Int) < (n : Int) := by omega
            have mk : min k n = n := by omega
            have z1 : (0 : Int) ≤ (n : Int) := by omega
            have z2 : (n : Int) ≤ (ct : Int) := by omega
            have nb6 := (unhide NB4).set 3 (.slice at' n ct) (i' := i') (t' := t') (tv' := .slice at' n ct) (ev' := .slice ae n ce) rfl
            have ir6 := (unhide IR4).other (B := w.heap.size) (W := wr.setCell ⟨w.heap.size, 3, none⟩ (.slice at' n ct)) (fun c hc => Below.heap_setCell _ _ _ c hc) (unhide NB4).c (by decide)
            obtain ⟨y6, hy6⟩ : ∃ y6, wr.setCell ⟨w.heap.size, 3, none⟩ (.slice at' n ct) = y6 := ⟨_, rfl⟩
            rw [hy6] at nb6 ir6
            have HY6 := hide hy6
            have NB6 := hide nb6
            have IR6 := hide ir6
            clear nb6 ir6 hy6
            go_upto_region 12 with fail
            rw [unhide HY6]
            clear HY6 e3 e4 f3 f4
            obtain ⟨h0, h1, h2, h3, h4⟩ := five_cells (unhide NB6).c
            obtain ⟨k0, k1, k2, k3, k4⟩ := five_cells (unhide NB6).z
            have kf : ∀ j, y6.frozen? ⟨w.heap.size + 1, j, none⟩ = false := fun j => free_of_block (unhide NB6).z
            have kf0 := kf 0
            have kf1 := kf 1
            have kf2 := kf 2
            have kf3 := kf 3
            have kf4 := kf 4
            obtain ⟨V, hV⟩ : ∃ V, five y6 (w.heap.size + 1) (.bool put) (.int .i64 i') (.int .i64 t') (.slice at' n ct) (.slice ae n ce) = V := ⟨_, rfl⟩
            have vb := five_box (unhide NB6).z (.bool put) (.int .i64 i') (.int .i64 t') (.slice at' n ct) (.slice ae n ce)
            rw [hV] at vb
            obtain ⟨r0, r1, r2, r3, r4⟩ := five_cells vb
            have FK : Hid (Kp T w V) := by
              rw [← hV]
              exact (unhide NB6).k.trans (E := fun c => c = w.heap.size + 1) (five_kp _ _ _ _ _) (fun c hc e => by omega)
            have FI : Hid (Ir b2 V (.slice at' k ct) us) := by
              rw [← hV]
              exact (unhide IR6).other (B := w.heap.size + 1) (fun c hc => five_other _ _ _ _ _ hc) (unhide NB6).z (by decide)
            have HV := hide hV
            clear kf vb hV
            go_wp2
            try simp only [Exit.inBlock, Exit.then]
            change bodyPost _ _ _ _ _ (five y6 (w.heap.size + 1) (.bool put) (.int .i64 i') (.int .i64 t') (.slice at' n ct) (.slice ae n ce))
            rw [unhide HV]
            refine bodyPost_ret (v := .agg #[.bool put, .int .i64 i', .int .i64 t', .slice at' n ct, .slice ae n ce]) (by simp [results, Try.results14, go_sem, r0, r1, r2, r3, r4]) rfl ?_
            exact ⟨i', t', us, by rw [mk], unhide HUS, unhide FI, by rw [unhide HTE]; exact unhide FK⟩
end Go.Proofs.Ytmgdkbpbmngibaa

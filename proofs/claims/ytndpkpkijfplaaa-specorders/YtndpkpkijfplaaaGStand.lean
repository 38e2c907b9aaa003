/- isRequest, requestOf, mayStand: contracts. -/
import Derived.Test.YtndpkpkijfplaaaGMem
import Derived.Deep.QuietTactic
import Derived.Deep.RegionWith
namespace Go.Proofs.Ytndpkpkijfplaaa
open Go.RowKit Go.Maps
attribute [local go_sem ↓] Go.wp_at_zero Go.wp_at_succ

theorem isRequest_any (k : Int) (w : World) : Calls Try.prog 35 #[.int .i64 k] w fun e w' => e = .returned (.bool (decide (isReq k))) ∧ w' = w := by
  by_cases h1 : k = 1
  · subst h1
    rw [decide_eq_true (Or.inl rfl)]
    go_enter Try.func35, Try.ntmps35
    go_wp2
    go_ret
    exact ⟨rfl, rfl⟩
  · by_cases h2 : k = 2
    · subst h2
      rw [decide_eq_true (Or.inr (Or.inl rfl))]
      go_enter Try.func35, Try.ntmps35
      go_wp2
      go_ret
      exact ⟨rfl, rfl⟩
    · by_cases h3 : k = 3
      · subst h3
        rw [decide_eq_true (Or.inr (Or.inr rfl))]
        go_enter Try.func35, Try.ntmps35
        go_wp2
        go_ret
        exact ⟨rfl, rfl⟩
      · rw [decide_eq_false (fun h => by rcases h with h | h | h; exact h1 h; exact h2 h; exact h3 h)]
        go_enter Try.func35, Try.ntmps35
        go_wp2
        go_ret
        exact ⟨rfl, rfl⟩
/-- the box of an entry. -/
theorem boxE (w : World) (e : En) (mo : Option Addr) (mc : Nat) : ∃ W, w.alloc (.cells #[.int .i64 e.kind, .int .i64 e.client, .int .i64 e.seq, .string e.text, .slice mo e.ms.length mc, .int .i64 e.dest] 29) = W ∧ Below w.heap.size w W ∧ W.heap[w.heap.size]? = some (.cells #[.int .i64 e.kind, .int .i64 e.client, .int .i64 e.seq, .string e.text, .slice mo e.ms.length mc, .int .i64 e.dest] 29 (0, 0)) :=
  ⟨_, rfl, (Below.refl _ w).alloc (Nat.le_refl _) _, box_at _ _⟩
/-- a store of a whole pair. -/
theorem pair_end {w y : World} {B : Nat} {v0 v1 z0 z1 : Value} {t : TypeId} (hz : y.heap[B]? = some (.cells #[z0, z1] t (0, 0))) (hB : w.heap.size ≤ B) (hb : Below w.heap.size w y) (W : World)
    (hW : W = (y.setCell ⟨B, 0, none⟩ v0).setCell ⟨B, 1, none⟩ v1) : W.heap[B]? = some (.cells #[v0, v1] t (0, 0)) ∧ Below w.heap.size w W ∧ ∀ k, k ≠ B → W.heap[k]? = y.heap[k]? := by
  refine ⟨?_, ?_, fun k hk => ?_⟩
  · rw [hW]
    exact setCell_block (setCell_block hz)
  · rw [hW]
    exact (hb.setCell (p := ⟨B, 0, none⟩) hB _).setCell (p := ⟨B, 1, none⟩) hB _
  · rw [hW, Below.heap_setCell _ _ _ k hk, Below.heap_setCell _ _ _ k hk]
set_option maxRecDepth 20000 in
theorem requestOf_any (e : En) (mo : Option Addr) (mc : Nat) (w : World) : Calls Try.prog 36 #[ev e mo mc] w fun x w' => x = .returned (rq e.client e.seq) ∧ Below w.heap.size w w' := by
  obtain ⟨W, hW, bW, xW⟩ := boxE w e mo mc
  obtain ⟨V, hV⟩ : ∃ V, W.alloc (.cells #[.int .i64 0, .int .i64 0] 62) = V := ⟨_, rfl⟩
  have bV : Below W.heap.size W V := by rw [← hV]; exact (Below.refl _ W).alloc (Nat.le_refl _) _
  have sW : W.heap.size = w.heap.size + 1 := by rw [← hW]; simp
  have zV : V.heap[w.heap.size + 1]? = some (.cells #[.int .i64 0, .int .i64 0] 62 (0, 0)) := by rw [← sW, ← hV]; exact box_at _ _
  have xV := Below.stay bV xW
  have k1 : V.cell? ⟨w.heap.size, 1, none⟩ = some (.int .i64 e.client) := (cell_of_block xV).trans rfl
  have k2 : V.cell? ⟨w.heap.size, 2, none⟩ = some (.int .i64 e.seq) := (cell_of_block xV).trans rfl
  have z0 : V.cell? ⟨w.heap.size + 1, 0, none⟩ = some (.int .i64 0) := (cell_of_block zV).trans rfl
  have z1 : V.cell? ⟨w.heap.size + 1, 1, none⟩ = some (.int .i64 0) := (cell_of_block zV).trans rfl
  have fz : ∀ i, V.frozen? ⟨w.heap.size + 1, i, none⟩ = false := fun i => free_of_block zV
  have HW := hide hW
  have HV := hide hV
  have BB := hide (below_far bW bV)
  have ZV := hide zV
  clear hW hV bW bV xW xV zV sW
  go_enter Try.func36, Try.ntmps36
  go_upto_region 1 with fail
  rw [unhide HW]
  rw [unhide HV]
  go_wp2
  obtain ⟨Y, hY⟩ : ∃ Y : World, Y = (V.setCell ⟨w.heap.size + 1, 0, none⟩ (.int .i64 e.client)).setCell ⟨w.heap.size + 1, 1, none⟩ (.int .i64 e.seq) := ⟨_, rfl⟩
  rw [← hY]
  obtain ⟨hh, bY, kY⟩ := pair_end (unhide ZV) (Nat.le_succ _) (unhide BB) Y hY
  have d0 : Y.cell? ⟨w.heap.size + 1, 0, none⟩ = some (.int .i64 e.client) := (cell_of_block hh).trans rfl
  have d1 : Y.cell? ⟨w.heap.size + 1, 1, none⟩ = some (.int .i64 e.seq) := (cell_of_block hh).trans rfl
  exact bodyPost_ret (v := rq e.client e.seq) (by simp [results, Try.results36, go_sem, d0, d1]) rfl ⟨rfl, bY⟩

/-- whose cells are all zero. -/
abbrev zbox (t : TypeId) : Obj := .cells #[.int .i64 0, .int .i64 0, .int .i64 0, .string ⟨#[]⟩, .slice none 0 0, .int .i64 0] t
theorem KnA.calls_none {A w : World} {p a b d n : Nat} {S : Kn} (h : KnA A w p a b d n S) {c s : Int} (hc : wf64 c) (hs : wf64 s) (e0 : S.calls c s = none) :
    (Instr.lookup 56 (.map (some a)) (.agg #[.int .i64 c, .int .i64 s]) true).run Try.prog w = .ok (.tuple #[zent, .bool false]) w := by
  rcases h.calls.look hc hs with ⟨_, lk⟩ | ⟨e, _, _, e1, _⟩
  · exact lk
  · rw [e0] at e1; cases e1
/-- what a request was called with, and how it is held. -/
theorem KnA.calls_some {A w : World} {p a b d n : Nat} {S : Kn} (h : KnA A w p a b d n S) {c s : Int} (hc : wf64 c) (hs : wf64 s) {e : En} (e0 : S.calls c s = some e) :
    ∃ mo mc, EnA A e mo ∧ ∀ Y, Below w.heap.size w Y → (Instr.lookup 56 (.map (some a)) (.agg #[.int .i64 c, .int .i64 s]) true).run Try.prog Y = .ok (.tuple #[ev e mo mc, .bool true]) Y := by
  obtain ⟨M, h1, h2⟩ := h.calls
  obtain ⟨h3, h4⟩ := h2 c s hc hs
  obtain ⟨mo, mc, k1, k2⟩ := h4 e e0
  refine ⟨mo, mc, k2, fun Y hY => ?_⟩
  have h1Y : Y.ownsMap Try.prog 62 asIs a n M := owns_stay h1 (hY.block a h1.lt)
  obtain ⟨v, ps, r1, r2⟩ := h1Y.look_ok keyedRq Try.underlying56 (zeroE Y) rfl (kq_at hc hs)
  rw [k1] at r2
  simp only [asIs, Option.some.injEq, Prod.mk.injEq, DataW.held.injEq] at r2
  rw [h3, e0, r2.1] at r1
  exact r1
set_option maxRecDepth 20000 in
set_option maxHeartbeats 1000000 in
/-- a request may stand at a place, as values tell. -/
theorem mayStand_any {A w : World} {p a b d n : Nat} {S : Kn} (h : KnA A w p a b d n S) {c s l : Int} (hc : wf64 c) (hs : wf64 s) (hl : wf64 l) :
    Calls Try.prog 37 #[.pointer (some ⟨p, 0, none⟩), .agg #[.int .i64 c, .int .i64 s, .int .i64 l]] w fun x w' => x = .returned (.bool (decide (S.mayStand c s l))) ∧ Below w.heap.size w w' := by
  obtain ⟨W, hW⟩ : ∃ W, w.alloc (.cells #[.int .i64 c, .int .i64 s, .int .i64 l] 64) = W := ⟨_, rfl⟩
  have bW : Below w.heap.size w W := by rw [← hW]; exact (Below.refl _ w).alloc (Nat.le_refl _) _
  have xW : W.heap[w.heap.size]? = some (.cells #[.int .i64 c, .int .i64 s, .int .i64 l] 64 (0, 0)) := by rw [← hW]; exact box_at _ _
  have hk := h.below bW
  obtain ⟨V, hV⟩ : ∃ V, (W.alloc (zbox 29)).drew = V := ⟨_, rfl⟩
  have bV : Below W.heap.size W V := by rw [← hV]; exact ((Below.refl _ W).alloc (Nat.le_refl _) _).drew
  have bD : Below W.heap.size W W.drew := (Below.refl _ W).drew
  have SS := fun (Y : World) (hY : Below W.heap.size W Y) => (And.intro ((cell_of_block (hk.below hY).box (i := 0)).trans rfl) (And.intro ((cell_of_block (Below.stay hY xW) (i := 0)).trans rfl) ((cell_of_block (Below.stay hY xW) (i := 1)).trans rfl)) : Y.cell? ⟨p, 0, none⟩ = some (.map (some a)) ∧ Y.cell? ⟨w.heap.size, 0, none⟩ = some (.int .i64 c) ∧ Y.cell? ⟨w.heap.size, 1, none⟩ = some (.int .i64 s))
  have SW := hide (SS W (Below.refl _ _))
  have SD := hide (SS _ bD)
  have SV := hide (SS _ bV)
  have k2 : W.cell? ⟨w.heap.size, 2, none⟩ = some (.int .i64 l) := (cell_of_block xW).trans rfl
  have HW := hide hW
  have BB := hide (below_far bW bV)
  obtain ⟨o, e0⟩ : ∃ o, S.calls c s = o := ⟨_, rfl⟩
  cases o with
  | none =>
    rw [decide_eq_false (fun x => by have := x.1; rw [e0] at this; cases this)]
    have lkd := (hk.below bD).calls_none hc hs e0
    have lkv := (hk.below bV).calls_none hc hs e0
    clear hW h hk e0 bV bD SS bW xW k2
    subst hV
    go_enter Try.func37, Try.ntmps37
    go_upto_region 1 with fail
    rw [unhide HW]
    go_region_held3 (fun Y => Y.cell? ⟨p, 0, none⟩ = some (.map (some a)) ∧ Y.cell? ⟨w.heap.size, 0, none⟩ = some (.int .i64 c) ∧ Y.cell? ⟨w.heap.size, 1, none⟩ = some (.int .i64 s))
      (first | exact unhide SD | exact unhide SV | fail)
      (first
      | fail
      | fail)
    all_goals go_wp2
    all_goals go_ret
    all_goals exact ⟨rfl, unhide BB⟩
  | some e =>
    obtain ⟨mo, mc, -, lk⟩ := hk.calls_some hc hs e0
    have lkd := lk _ bD
    have lkv := lk _ bV
    obtain ⟨Z, hZ⟩ : ∃ Z : World, (W.alloc (.cells #[.int .i64 e.kind, .int .i64 e.client, .int .i64 e.seq, .string e.text, .slice mo e.ms.length mc, .int .i64 e.dest] 29)).drew = Z := ⟨_, rfl⟩
    have bZ : Below W.heap.size W Z := by rw [← hZ]; exact ((Below.refl _ W).alloc (Nat.le_refl _) _).drew
    have SZ' := SS _ bZ
    rw [← hZ] at SZ'
    have SZ := hide SZ'
    have BZ := hide (below_far bW bZ)
    have kZ := hk.below bZ
    have xZ := Below.stay bZ xW
    have y2 : Z.cell? ⟨w.heap.size, 2, none⟩ = some (.int .i64 l) := (cell_of_block xZ).trans rfl
    clear hW h bD SS lk bW bV xW hk k2 SZ'
    obtain ⟨Y, hY⟩ : ∃ Y, Z.drew = Y := ⟨_, rfl⟩
    have bY : Below Z.heap.size Z Y := by rw [← hY]; exact (Below.refl _ Z).drew
    have kY := kZ.below bY
    have xY := Below.stay bY xZ
    have S4' : (Y.cell? ⟨p, 1, none⟩ = some (.map (some b)) ∧ Y.cell? ⟨w.heap.size, 0, none⟩ = some (.int .i64 c) ∧ Y.cell? ⟨w.heap.size, 1, none⟩ = some (.int .i64 s)) := ⟨(cell_of_block kY.box).trans rfl, (cell_of_block xY).trans rfl, (cell_of_block xY).trans rfl⟩
    have lk4 := kY.place.look hc hs
    obtain ⟨o1, ho1⟩ : ∃ o, S.place c s = o := ⟨_, rfl⟩
    obtain ⟨o2, ho2⟩ : ∃ o, S.holder l = o := ⟨_, rfl⟩
    rw [ho1, ← hY] at lk4
    rw [← hY] at S4'
    have S4 := hide S4'
    clear S4'
    obtain ⟨Y5, hY5⟩ : ∃ W, Y.drew = W := ⟨_, rfl⟩
    have bY5 : Below Y.heap.size Y Y5 := by rw [← hY5]; exact (Below.refl _ Y).drew
    obtain ⟨Y6, hY6⟩ : ∃ W, (Y.alloc (.cells #[.int .i64 0, .int .i64 0] 62)).drew = W := ⟨_, rfl⟩
    have bY6 : Below Y.heap.size Y Y6 := by rw [← hY6]; exact ((Below.refl _ Y).alloc (Nat.le_refl _) _).drew
    obtain ⟨Y7, hY7⟩ : ∃ W, (Y.alloc (.cells #[.int .i64 (o2.getD (0, 0)).1, .int .i64 (o2.getD (0, 0)).2] 62)).drew = W := ⟨_, rfl⟩
    have bY7 : Below Y.heap.size Y Y7 := by rw [← hY7]; exact ((Below.refl _ Y).alloc (Nat.le_refl _) _).drew
    have x7 : Y7.heap[Y.heap.size]? = some (.cells #[.int .i64 (o2.getD (0, 0)).1, .int .i64 (o2.getD (0, 0)).2] 62 (0, 0)) := by rw [← hY7]; exact box_at Y _
    have SS := fun (X : World) (hX : Below Y.heap.size Y X) => (And.intro ((cell_of_block (kY.below hX).box (i := 2)).trans rfl) ((cell_of_block (Below.stay hX xY) (i := 2)).trans rfl) : X.cell? ⟨p, 2, none⟩ = some (.map (some d)) ∧ X.cell? ⟨w.heap.size, 2, none⟩ = some (.int .i64 l))
    have lk5 := (kY.below bY5).holder.look hl
    have lk6 := (kY.below bY6).holder.look hl
    rw [ho2] at lk5 lk6
    have S4' := SS Y (Below.refl _ _)
    have S5' := SS _ bY5
    have S6' := SS _ bY6
    have S7' := SS _ bY7
    have S7 := hide S7'
    rw [← hY5] at S5' lk5
    rw [← hY6] at S6' lk6
    rw [← hY7] at S7'
    have T4 := hide S4'
    have T5 := hide S5'
    have T6 := hide S6'
    have T7 := hide S7'
    have x6 := Below.stay bY7 xY
    have r0 : Y7.cell? ⟨Y.heap.size, 0, none⟩ = some (.int .i64 (o2.getD (0, 0)).1) := (cell_of_block x7).trans rfl
    have r1 : Y7.cell? ⟨Y.heap.size, 1, none⟩ = some (.int .i64 (o2.getD (0, 0)).2) := (cell_of_block x7).trans rfl
    have c0 : Y7.cell? ⟨w.heap.size, 0, none⟩ = some (.int .i64 c) := (cell_of_block x6).trans rfl
    have c1 : Y7.cell? ⟨w.heap.size, 1, none⟩ = some (.int .i64 s) := (cell_of_block x6).trans rfl
    have c2 : Y7.cell? ⟨w.heap.size, 2, none⟩ = some (.int .i64 l) := (cell_of_block x6).trans rfl
    have B7 := hide (below_far (unhide BZ) (below_far bY bY7))
    have HR : Hid (decide (S.mayStand c s l) = decide (1 ≤ l ∧ o1.getD l = l ∧ o2.getD (c, s) = (c, s))) := hide (by
      have e1 : (S.calls c s).isSome = true := by rw [e0]; rfl
      unfold Kn.mayStand
      rw [e1, ho1, ho2]; simp)
    have HZ := hide hZ
    have HY := hide hY
    have HY7 := hide hY7
    clear S4' S5' S6' S7' kZ xZ bZ hZ kY xY bY SS bY5 bY6 bY7 x7 x6 hY hY5 hY6 hY7 ho1 ho2 Y5 Y6 e0
    rw [unhide HR]
    clear HR
    obtain ⟨R, hR⟩ : ∃ R, decide (1 ≤ l ∧ o1.getD l = l ∧ o2.getD (c, s) = (c, s)) = R := ⟨_, rfl⟩
    rw [hR]
    have HR := hide hR
    clear hR
    subst hV
    go_enter Try.func37, Try.ntmps37
    go_upto_region 1 with fail
    rw [unhide HW]
    go_region_held3 (fun Y => Y.cell? ⟨p, 0, none⟩ = some (.map (some a)) ∧ Y.cell? ⟨w.heap.size, 0, none⟩ = some (.int .i64 c) ∧ Y.cell? ⟨w.heap.size, 1, none⟩ = some (.int .i64 s))
      (first | exact unhide SD | exact unhide SV | exact unhide SZ | fail)
      (first
      | fail
      | fail)
    all_goals rw [unhide HZ]
    all_goals clear HW SW SD SV SZ lkd lkv HZ
    all_goals by_cases hl1 : l < 1
    iterate 2
      · obtain rfl : R = false := by rw [← unhide HR]; exact decide_eq_false (fun x => by omega)
        go_wp2
        go_ret
        exact ⟨rfl, unhide BZ⟩
      · go_upto_region 4 with fail
        go_region_held3 (fun Y => Y.cell? ⟨p, 1, none⟩ = some (.map (some b)) ∧ Y.cell? ⟨w.heap.size, 0, none⟩ = some (.int .i64 c) ∧ Y.cell? ⟨w.heap.size, 1, none⟩ = some (.int .i64 s))
          (first | exact unhide S4 | fail)
          (first
          | fail
          | fail)
        all_goals
          rw [unhide HY]
          clear S4 lk4 HY y2
          go_upto_region 5 with fail
          go_region_held3 (fun Y => Y.cell? ⟨p, 2, none⟩ = some (.map (some d)) ∧ Y.cell? ⟨w.heap.size, 2, none⟩ = some (.int .i64 l))
            (first | exact unhide T4 | exact unhide T5 | exact unhide T6 | exact unhide T7 | fail)
            (first
            | fail
            | fail)
        all_goals
          rw [unhide HY7]
          clear T4 T5 T6 T7 lk5 lk6 HY7
        all_goals
          have HR := unhide HR
          have g2 : 1 ≤ l := by omega
          cases o1 with
          | none =>
            cases o2 with
            | none =>
              obtain rfl : R = true := by rw [← HR]; simp [g2]
              clear HR
              simp only [Option.getD_none, Option.isSome_none] at *
              go_wp2
              go_ret
              exact ⟨rfl, unhide B7⟩
            | some r =>
              obtain ⟨u, v⟩ := r
              by_cases hu : u = c
              · by_cases hv : v = s
                · subst hu
                  subst hv
                  obtain rfl : R = true := by rw [← HR]; simp [g2]
                  clear HR
                  simp only [Option.getD_none, Option.getD_some, Option.isSome_none, Option.isSome_some] at *
                  go_wp2
                  go_ret
                  exact ⟨rfl, unhide B7⟩
                · have q1 : (v == s) = false := by rw [beq_eq_false_iff_ne]; exact hv
                  obtain rfl : R = false := by rw [← HR]; simp [hv]
                  clear HR
                  simp only [Option.getD_none, Option.getD_some, Option.isSome_none, Option.isSome_some] at *
                  go_wp2
                  go_ret
                  exact ⟨rfl, unhide B7⟩
              · have q1 : (u == c) = false := by rw [beq_eq_false_iff_ne]; exact hu
                obtain rfl : R = false := by rw [← HR]; simp [hu]
                clear HR
                simp only [Option.getD_none, Option.getD_some, Option.isSome_none, Option.isSome_some] at *
                go_wp2
                go_ret
                exact ⟨rfl, unhide B7⟩
          | some q =>
            by_cases hq : q = l
            · subst hq
              cases o2 with
              | none =>
                obtain rfl : R = true := by rw [← HR]; simp [g2]
                clear HR
                simp only [Option.getD_none, Option.getD_some, Option.isSome_none, Option.isSome_some] at *
                go_wp2
                go_ret
                exact ⟨rfl, unhide B7⟩
              | some r =>
                obtain ⟨u, v⟩ := r
                by_cases hu : u = c
                · by_cases hv : v = s
                  · subst hu
                    subst hv
                    obtain rfl : R = true := by rw [← HR]; simp [g2]
                    clear HR
                    simp only [Option.getD_some, Option.isSome_some] at *
                    go_wp2
                    go_ret
                    exact ⟨rfl, unhide B7⟩
                  · have q1 : (v == s) = false := by rw [beq_eq_false_iff_ne]; exact hv
                    obtain rfl : R = false := by rw [← HR]; simp [hv]
                    clear HR
                    simp only [Option.getD_some, Option.isSome_some] at *
                    go_wp2
                    go_ret
                    exact ⟨rfl, unhide B7⟩
                · have q1 : (u == c) = false := by rw [beq_eq_false_iff_ne]; exact hu
                  obtain rfl : R = false := by rw [← HR]; simp [hu]
                  clear HR
                  simp only [Option.getD_some, Option.isSome_some] at *
                  go_wp2
                  go_ret
                  exact ⟨rfl, unhide B7⟩
            · have q1 : (q == l) = false := by rw [beq_eq_false_iff_ne]; exact hq
              obtain rfl : R = false := by rw [← HR]; simp [hq]
              clear HR
              simp only [Option.getD_some, Option.isSome_some] at *
              go_wp2
              go_ret
              exact ⟨rfl, unhide B7⟩
end Go.Proofs.Ytndpkpkijfplaaa

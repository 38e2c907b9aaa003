/- The document's table: Put: a contract. -/
import Derived.Test.YtkalpdfigdaalaaUXAsk
import Derived.Deep.RegionLaw
namespace Go.Proofs.Ytkalpdfigdaalaa
open Go.RowKit Go.Maps
attribute [local go_sem ↓] Go.wp_at_zero Go.wp_at_succ

/-- one entry more. -/
theorem run_pushX {b0 base : Nat} {w : World} {v : Value} {es : List En} (h : XEs b0 base w v es) (ty : TypeId) (nb : Nat) (g : En) (mo : Option Addr) (m mc : Nat) (hx : w.heap[nb]? = some (.cells (g.cells (.slice mo m mc)).toArray 31 (0, 0))) (hm : g.ms.length = m) (him : InF (fun k => k < b0) w mo g.ms) (hml : m ≤ 1000000) (hl : es.length ≤ 1000000) (hb : base ≤ w.heap.size) (hb0 : b0 ≤ base) :
    ∃ v' w', (Builtin.append_ #[22, 22] ty #[v, .slice (some ⟨nb, 0, none⟩) 1 1]).run Try.prog w = .ok v' w' ∧ XEs b0 base w' v' (es ++ [g]) ∧ w.grownBy w' v.ownBlock ∧ (v'.ownBlock = v.ownBlock ∨ v'.ownBlock = some w.heap.size) := by
  obtain ⟨i0, hi, hz0, hz1, hz2⟩ := info_parts Try.infoEn
  obtain ⟨xs, h1, h3⟩ := h
  obtain ⟨v', w', hr, o', g', _, hat⟩ := run_append_own_at (P := Try.prog) w base 22 ty 31 i0 _ 6 72 Try.underlying22 hi hz0 hz1 hz2 rfl (by decide) v es.length xs h1 ⟨nb, 0, none⟩ 1 1 (g.cells (.slice mo m mc)) rfl
    (fun j u hj => by rw [Addr.add_lit, Nat.zero_add, cell_of_block hx]; simpa using hj) (En.cells_one g rfl) (by unfold maxLen; omega) (by omega) hb
  have keep : ∀ (ao : Option Addr) (ys : List Int), InF (fun k => k < b0) w ao ys → InF (fun k => k < b0) w' ao ys := fun ao ys hu i hi => by
    obtain ⟨a, a1, a2, a3⟩ := hu i hi
    have hblk : a.block < w.heap.size := by have := blk_lt a3; rwa [add_block] at this
    refine ⟨a, a1, a2, ?_⟩
    rw [World.cell?_of_block (w := w) (by rw [add_block]; exact g'.block a.block hblk (fun x => by have := (h1.lt _ x.symm).1; omega))]
    exact a3
  refine ⟨v', w', hr, ⟨_, by rw [List.length_append]; exact o', fun i q hq => ?_⟩, g', hat⟩
  have hxl : xs.length = es.length * 6 := h1.1
  by_cases he : i < es.length
  · rw [List.getElem?_append_left he] at hq
    obtain ⟨uo, uc, u1, u2, u3⟩ := h3 i q hq
    refine ⟨uo, uc, fun j c hj => ?_, keep _ _ u2, u3⟩
    have hj6 : j < 6 := (List.getElem?_eq_some_iff.1 hj).1
    rw [List.getElem?_append_left (by omega)]; exact u1 j c hj
  · rw [List.getElem?_append_right (by omega)] at hq
    have hi0 : i = es.length := by have := (List.getElem?_eq_some_iff.1 hq).1; simp at this; omega
    subst hi0
    simp at hq
    subst hq
    subst hm
    refine ⟨mo, mc, fun j c hj => ?_, keep _ _ him, hml⟩
    rw [List.getElem?_append_right (by omega), show es.length * 6 + j - xs.length = j by omega]; exact hj
/-- what the loop of Put finds. -/
theorem xput_found {es : List En} (hr : Rise es) {e g : En} {k : Nat} (hg : es[k]? = some g) (h1 : g.client = e.client) (h2 : e.seq ≤ g.seq) : ¬ mayPut es e := fun hm => by
  have h := (mayPut_top hr e).1 hm
  have := ((topOf_lt e.client e.seq es).1 h.2.2).2 g.seq (mem_sq.2 ⟨k, g, hg, h1, rfl⟩)
  omega
theorem xput_free {es : List En} (hr : Rise es) {e : En} (hq : reqOk e) (h : ∀ (j : Nat) (g : En), es[j]? = some g → ¬ (g.client = e.client ∧ e.seq ≤ g.seq)) : mayPut es e := by
  rw [mayPut_top hr]
  refine ⟨by have := hq.1; have := hq.2.1; show e.kind = 1 ∨ e.kind = 2 ∨ e.kind = 3; omega, hq.2.2.1, (topOf_lt _ _ _).2 ⟨by have := hq.2.2.2; omega, fun x hx => ?_⟩⟩
  obtain ⟨i, g, hi, hc, hs⟩ := mem_sq.1 hx
  have := h i g hi
  by_cases hh : x < e.seq
  · exact hh
  · exact absurd ⟨hc, by omega⟩ this
theorem xput_bad {es : List En} (hr : Rise es) {e : En} (hq : ¬ reqOk e) : ¬ mayPut es e := fun hm => hq (by
  have h := (mayPut_top hr e).1 hm
  have h3 := ((topOf_lt e.client e.seq es).1 h.2.2).1
  have h0 : e.kind = 1 ∨ e.kind = 2 ∨ e.kind = 3 := h.1
  exact ⟨by omega, by omega, h.2.1, by omega⟩)
theorem xput_fin {b0 base : Nat} {w y w5 : World} {p : Nat} {rv v5 : Value} {gs : List En} (hb0 : b0 ≤ base) (_hbase : base ≤ w.heap.size) (hp : base ≤ p) (hpl : p < w.heap.size) (hk : Below w.heap.size w y) (hbx : y.heap[p]? = some (.cells #[rv] 29 (0, 0))) (_hrv : ∀ k, rv.ownBlock = some k → k < w.heap.size) (hnp : rv.ownBlock ≠ some p)
    (hg : y.grownBy w5 rv.ownBlock) (hx : XEs b0 base w5 v5 gs) (hat : v5.ownBlock = rv.ownBlock ∨ v5.ownBlock = some y.heap.size) :
    w5.heap[p]? = some (.cells #[rv] 29 (0, 0)) ∧ XTb b0 base (w5.setCell ⟨p, 0, none⟩ v5) p v5 gs ∧ Kp (fun k => k = p ∨ rv.ownBlock = some k) w (w5.setCell ⟨p, 0, none⟩ v5) ∧ (∀ k, v5.ownBlock = some k → rv.ownBlock = some k ∨ w.heap.size ≤ k) := by
  have p5 : w5.heap[p]? = some (.cells #[rv] 29 (0, 0)) := (hg.block p (heap_lt hbx) (fun x => hnp x.symm)).trans hbx
  have k5 : Kp (fun k => k = p ∨ rv.ownBlock = some k) w w5 := (Kp.of_below hk).grown hg (fun k _ hx => Or.inr hx)
  have hv : ∀ k, v5.ownBlock = some k → rv.ownBlock = some k ∨ w.heap.size ≤ k := fun k hk' => by
    rcases hat with e | e
    · exact Or.inl (e ▸ hk')
    · rw [e] at hk'; cases hk'; exact Or.inr hk.size
  refine ⟨p5, ⟨setCell_block p5, ?_, hp, hb0⟩, k5.setCell (p := ⟨p, 0, none⟩) (Or.inl rfl) v5, hv⟩
  refine hx.keep (D := fun k => k = p) (Kp.setCell (D := fun k => k = p) (Kp.refl _ w5) (p := ⟨p, 0, none⟩) rfl v5) (fun k hk' => by rw [hk']; omega) (fun k hk' e => ?_)
  subst e
  obtain ⟨_, cur, fr, hc⟩ := hx.tag k hk'
  rw [p5] at hc; cases hc
set_option maxRecDepth 20000 in
set_option maxHeartbeats 4000000 in
theorem xput_any {b0 base : Nat} {w : World} {p : Nat} {rv : Value} {es : List En} (h : XTb b0 base w p rv es) (hl : es.length ≤ 1000000) (hr : Rise es) (e : En) (mo : Option Addr) (m mc : Nat) (hm : e.ms.length = m) (hml : m ≤ 1000000) (him : InF (fun k => k < b0) w mo e.ms) (hbase : base ≤ w.heap.size) :
    Calls Try.prog 13 #[.pointer (some ⟨p, 0, none⟩), .agg #[.int .i64 e.kind, .int .i64 e.client, .int .i64 e.seq, .string e.text, .slice mo m mc, .int .i64 e.dest]] w fun x w' =>
      x = .returned (.tuple #[.int .i64 (placeOf es e), .bool (decide (mayPut es e))]) ∧ ∃ rv', XTb b0 base w' p rv' (putOf es e) ∧ Kp (fun k => k = p ∨ rv.ownBlock = some k) w w' ∧ (∀ k, rv'.ownBlock = some k → rv.ownBlock = some k ∨ w.heap.size ≤ k) := by
  obtain ⟨mb, hmb⟩ : ∃ mb, decide (mayPut es e) = mb := ⟨_, rfl⟩
  rw [hmb]
  have HMB := hide hmb
  clear hmb
  obtain ⟨W, hW, bW, xW⟩ := boxE w e.kind e.client e.seq e.text mo m mc e.dest
  have CR := hide (request_any e mo m mc W)
  have k0 : W.cell? ⟨w.heap.size, 0, none⟩ = some (.int .i64 e.kind) := (cell_of_block xW).trans rfl
  have k1 : W.cell? ⟨w.heap.size, 1, none⟩ = some (.int .i64 e.client) := (cell_of_block xW).trans rfl
  have k2 : W.cell? ⟨w.heap.size, 2, none⟩ = some (.int .i64 e.seq) := (cell_of_block xW).trans rfl
  have k3 : W.cell? ⟨w.heap.size, 3, none⟩ = some (.string e.text) := (cell_of_block xW).trans rfl
  have k4 : W.cell? ⟨w.heap.size, 4, none⟩ = some (.slice mo m mc) := (cell_of_block xW).trans rfl
  have k5 : W.cell? ⟨w.heap.size, 5, none⟩ = some (.int .i64 e.dest) := (cell_of_block xW).trans rfl
  have XW := hide xW
  have HW := hide hW
  have BW := hide bW
  have HX := hide h
  have HR := hide hr
  have HM := hide hm
  have HI := hide him
  clear h hr hm him hW bW xW
  by_cases hq : reqOk e
  · rw [decide_eq_true hq] at CR
    have HQ := hide hq
    clear hq
    obtain ⟨ao, cap, erv, -, -⟩ := (unhide HX).row.slice
    obtain ⟨L, hL⟩ : ∃ L, es.length = L := ⟨_, rfl⟩
    rw [hL] at erv hl
    have HL := hide hL
    have HRV := hide erv
    clear hL erv
    go_enter Try.func13, Try.ntmps13
    go_upto_region 1 with fail
    rw [unhide HW]
    go_wp2_with fail
    refine (unhide CR).mono ?_
    rintro x w2 ⟨rfl, b2⟩
    have B2 := hide (below_far (unhide BW) b2)
    have X2 := hide (Below.stay b2 (unhide XW))
    clear b2 k0 k1 k2 k3 k4 k5 CR HW BW XW
    go_wp2_with fail
    go_loopw [6, 4, 5] (fun iv _ _ wr => ∃ k : Nat, k ≤ L ∧ iv = .int .i64 k ∧ (∀ (j : Nat) (g : En), es[j]? = some g → j < k → ¬ (g.client = e.client ∧ e.seq ≤ g.seq)) ∧ Below w2.heap.size w2 wr) (fun iv _ _ _ => L - (intOf iv).toNat)
    case atStart => exact ⟨0, Nat.zero_le _, rfl, fun j g _ hj => absurd hj (Nat.not_lt_zero _), Below.refl _ _⟩
    case round =>
      obtain ⟨k, hk, rfl, hno, hbr⟩ := hrel
      have NO := hide hno
      have BR := hide hbr
      have hx := (unhide HX).below (below_far (unhide B2) hbr)
      have xb := Below.stay hbr (unhide X2)
      have cb : wr.cell? ⟨p, 0, none⟩ = some (.slice ao L cap) := by rw [← unhide HRV]; exact (cell_of_block hx.box).trans rfl
      have e0 : wr.cell? ⟨w.heap.size, 0, none⟩ = some (.int .i64 e.kind) := (cell_of_block xb).trans rfl
      have e1 : wr.cell? ⟨w.heap.size, 1, none⟩ = some (.int .i64 e.client) := (cell_of_block xb).trans rfl
      have e2 : wr.cell? ⟨w.heap.size, 2, none⟩ = some (.int .i64 e.seq) := (cell_of_block xb).trans rfl
      have e3 : wr.cell? ⟨w.heap.size, 3, none⟩ = some (.string e.text) := (cell_of_block xb).trans rfl
      have e4 : wr.cell? ⟨w.heap.size, 4, none⟩ = some (.slice mo m mc) := (cell_of_block xb).trans rfl
      have e5 : wr.cell? ⟨w.heap.size, 5, none⟩ = some (.int .i64 e.dest) := (cell_of_block xb).trans rfl
      have HXR := hide hx
      clear hno hbr hx xb
      by_cases hlt : k < L
      · obtain ⟨g, hg⟩ : ∃ g, es[k]? = some g := ⟨_, List.getElem?_eq_getElem (by rw [unhide HL]; exact hlt)⟩
        have hrow := (unhide HXR).row
        rw [unhide HRV] at hrow
        obtain ⟨b, rfl, c1, c2⟩ := hrow.at hg
        have FOUND := hide (fun h1 h2 => xput_found (unhide HR) (e := e) hg h1 h2)
        have NEXT : Hid (¬ (g.client = e.client ∧ e.seq ≤ g.seq) → ∀ (j : Nat) (g : En), es[j]? = some g → j < k + 1 → ¬ (g.client = e.client ∧ e.seq ≤ g.seq)) := hide (fun hh j g' hg' hj => by
          by_cases hjk : j < k
          · exact unhide NO j g' hg' hjk
          · obtain rfl : j = k := by omega
            rw [hg] at hg'; cases hg'; exact hh)
        obtain ⟨gc, hgc⟩ : ∃ c, g.client = c := ⟨_, rfl⟩
        obtain ⟨gs, hgs⟩ : ∃ c, g.seq = c := ⟨_, rfl⟩
        obtain ⟨ec, hec⟩ : ∃ c, e.client = c := ⟨_, rfl⟩
        obtain ⟨eq, heq⟩ : ∃ c, e.seq = c := ⟨_, rfl⟩
        rw [hgc] at c1
        rw [hgs] at c2
        rw [hec] at e1
        rw [heq] at e2
        rw [hgc, hgs, hec, heq] at FOUND NEXT
        have q : (k : Int) < (L : Int) := by omega
        clear hg hgc hgs hrow
        by_cases hc : gc = ec
        · have hcb : (gc == ec) = true := by rw [beq_iff_eq]; exact hc
          by_cases hge : gs ≥ eq
          · have hno := unhide FOUND hc hge
            have FD : Hid (placeOf es e = 0 ∧ mb = false ∧ putOf es e = es) := hide ⟨by unfold placeOf; rw [if_neg hno], (unhide HMB).symm.trans (decide_eq_false hno), by unfold putOf; rw [if_neg hno]⟩
            clear hc hno FOUND NEXT hec heq e0 e3 e4 e5
            go_wp2_with fail
            refine wp_region_quiet_lit (by kernel_rfl) (by kernel_rfl) ?_
            repeat (
              with_reducible refine wpQuiet_step (fun K hK => ?_)
              go_simp
              first
                | (refine hK _ ?_; clear hK K)
                | (apply Exists.intro
                   refine ⟨fun _ => ?_, hK _ ?_⟩
                   (fail)
                   clear hK K))
            refine wpQuiet_nil ?_
            rintro wq ⟨nq, rfl⟩
            go_wp2
            refine bodyPost_ret (v := .tuple #[.int .i64 0, .bool false]) (by simp [results, Try.results13, go_sem]) rfl ?_
            have hD := below_far (unhide B2) ((unhide BR).trans ((drewN_below _ nq).mono (unhide BR).size))
            obtain ⟨d1, d2, d3⟩ := unhide FD
            rw [d1, d2, d3]
            exact ⟨rfl, rv, (unhide HX).below hD, Kp.of_below hD, fun k hk => Or.inl hk⟩
          · have NX := hide (unhide NEXT (fun h => hge h.2))
            clear hc FOUND NEXT e0 e3 e4 e5
            rw [← hec, ← heq] at NX
            clear hec heq
            go_wp2_with fail
            refine wp_region_quiet_lit (by kernel_rfl) (by kernel_rfl) ?_
            repeat (
              with_reducible refine wpQuiet_step (fun K hK => ?_)
              go_simp
              first
                | (refine hK _ ?_; clear hK K)
                | (apply Exists.intro
                   refine ⟨fun _ => ?_, hK _ ?_⟩
                   (fail)
                   clear hK K))
            refine wpQuiet_nil ?_
            rintro wq ⟨nq, rfl⟩
            go_wp2
            go_roundw
            case rel => exact ⟨k + 1, by omega, by go_num, unhide NX, (unhide BR).trans ((drewN_below _ nq).mono (unhide BR).size)⟩
            case measure => simp [intOf]; omega
        · have hcb : (gc == ec) = false := by rw [beq_eq_false_iff_ne]; exact hc
          have NX := hide (unhide NEXT (fun h => hc h.1))
          clear hc FOUND NEXT e0 e3 e4 e5
          rw [← hec, ← heq] at NX
          clear hec heq
          go_wp2_with fail
          refine wp_region_quiet_lit (by kernel_rfl) (by kernel_rfl) ?_
          repeat (
            with_reducible refine wpQuiet_step (fun K hK => ?_)
            go_simp
            first
              | (refine hK _ ?_; clear hK K)
              | (apply Exists.intro
                 refine ⟨fun _ => ?_, hK _ ?_⟩
                 (fail)
                 clear hK K))
          refine wpQuiet_nil ?_
          rintro wq ⟨nq, rfl⟩
          go_wp2
          go_roundw
          case rel => exact ⟨k + 1, by omega, by go_num, unhide NX, (unhide BR).trans ((drewN_below _ nq).mono (unhide BR).size)⟩
          case measure => simp [intOf]; omega
      · obtain rfl : k = L := by omega
        have hmay : mayPut es e := xput_free (unhide HR) (unhide HQ) (fun j g hg => unhide NO j g hg (by have := (List.getElem?_eq_some_iff.1 hg).1; rw [unhide HL] at this; exact this))
        have FD : Hid (placeOf es e = (k : Int) + 1 ∧ mb = true ∧ putOf es e = es ++ [e]) := hide ⟨by unfold placeOf; rw [if_pos hmay, unhide HL], (unhide HMB).symm.trans (decide_eq_true hmay), by unfold putOf; rw [if_pos hmay]⟩
        have q : ¬ (k : Int) < (k : Int) := by omega
        clear hmay
        obtain ⟨O, hO⟩ : ∃ O : Obj, Obj.cells #[.int .i64 e.kind, .int .i64 e.client, .int .i64 e.seq, .string e.text, .slice mo m mc, .int .i64 e.dest] 31 = O := ⟨_, rfl⟩
        obtain ⟨Y, hY⟩ : ∃ Y, (wr.alloc O).drew = Y := ⟨_, rfl⟩
        have bY : Below wr.heap.size wr Y := by rw [← hY]; exact ((Below.refl _ wr).alloc (Nat.le_refl _) _).drew
        have yb : Y.heap[wr.heap.size]? = some (.cells (e.cells (.slice mo m mc)).toArray 31 (0, 0)) := by rw [← hY, ← hO]; exact box_at wr _
        have bwY := below_far (below_far (unhide B2) (unhide BR)) bY
        have hxY := (unhide HX).below bwY
        have hxr := hxY.row
        rw [unhide HRV] at hxr
        obtain ⟨v5, w5, hr5, x5, g5, at5⟩ := run_pushX hxr 22 wr.heap.size e mo m mc yb (unhide HM) ((unhide HI).below bwY) hml (by rw [unhide HL]; exact hl) (Nat.le_trans hbase bwY.size) (unhide HX).old
        obtain ⟨ao5, cap5, rfl, -, -⟩ := x5.slice
        have hnp : rv.ownBlock ≠ some p := fun x => by
          obtain ⟨_, cur, fr, hc⟩ := (unhide HX).row.tag p x
          have := (unhide HX).box
          rw [this] at hc; cases hc
        have hrvl : ∀ k, rv.ownBlock = some k → k < w.heap.size := fun k hk => by
          obtain ⟨_, cur, fr, hc⟩ := (unhide HX).row.tag k hk
          exact heap_lt hc
        have FIN := xput_fin (unhide HX).old hbase (unhide HX).lo (heap_lt (unhide HX).box) bwY hxY.box hrvl hnp (by rw [unhide HRV]; exact g5) x5 (by rw [unhide HRV]; exact at5)
        rw [List.length_append, unhide HL] at FIN hr5
        simp only [List.length_cons, List.length_nil] at FIN hr5
        have HFIN := hide FIN
        have c5 : w5.cell? ⟨p, 0, none⟩ = some (.slice ao k cap) := by
          have := FIN.1
          rw [unhide HRV] at this
          exact (cell_of_block this).trans rfl
        have f5 : w5.frozen? ⟨p, 0, none⟩ = false := free_of_block FIN.1
        have HR5 := hide hr5
        have cY : Y.cell? ⟨p, 0, none⟩ = some (.slice ao k cap) := by
          have := hxY.box
          rw [unhide HRV] at this
          exact (cell_of_block this).trans rfl
        clear bY yb bwY hxY hxr hr5 x5 g5 at5 hnp hrvl FIN
        subst hO
        go_upto_region 8 with fail
        go_region_law (first
          | (refine step_run (.tmp 47) (.tmp 49) 22 rfl rfl rfl rfl (unhide HR5) ?_)
          | fail)
        all_goals go_wp2
        all_goals
          refine bodyPost_ret (v := .tuple #[.int .i64 ((k : Int) + 1), .bool true]) (by simp [results, Try.results13, go_sem]) rfl ?_
          obtain ⟨d1, d2, d3⟩ := unhide FD
          rw [d1, d2, d3]
          exact ⟨rfl, _, (unhide HFIN).2.1, (unhide HFIN).2.2.1, (unhide HFIN).2.2.2⟩
  · rw [decide_eq_false hq] at CR
    have hno := xput_bad (unhide HR) hq
    have FD : Hid (placeOf es e = 0 ∧ mb = false ∧ putOf es e = es) := hide ⟨by unfold placeOf; rw [if_neg hno], (unhide HMB).symm.trans (decide_eq_false hno), by unfold putOf; rw [if_neg hno]⟩
    clear hq hno
    go_enter Try.func13, Try.ntmps13
    go_upto_region 1 with fail
    rw [unhide HW]
    go_wp2_with fail
    refine (unhide CR).mono ?_
    rintro x w2 ⟨rfl, b2⟩
    have B2 := hide (below_far (unhide BW) b2)
    clear b2 k0 k1 k2 k3 k4 k5 CR HW BW XW
    go_wp2_with fail
    refine bodyPost_ret (v := .tuple #[.int .i64 0, .bool false]) (by simp [results, Try.results13, go_sem]) rfl ?_
    obtain ⟨d1, d2, d3⟩ := unhide FD
    rw [d1, d2, d3]
    exact ⟨rfl, rv, (unhide HX).below (unhide B2), Kp.of_below (unhide B2), fun k hk => Or.inl hk⟩
end Go.Proofs.Ytkalpdfigdaalaa

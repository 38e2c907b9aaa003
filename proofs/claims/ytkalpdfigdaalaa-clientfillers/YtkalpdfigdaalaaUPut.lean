/- isRequest, Put: contracts. -/
import Derived.Test.YtkalpdfigdaalaaUPush
namespace Go.Proofs.Ytkalpdfigdaalaa
open Go.RowKit Go.Maps
attribute [local go_sem ↓] Go.wp_at_zero Go.wp_at_succ

theorem isRequest_any (k : Int) (w : World) : Calls Try.prog 20 #[.int .i64 k] w fun e w' => e = .returned (.bool (decide (isReq k))) ∧ w' = w := by
  by_cases h1 : k = 1
  · rw [decide_eq_true (show isReq k from Or.inl h1)]
    go_enter Try.func20, Try.ntmps20
    go_wp2
    go_ret
    exact ⟨rfl, rfl⟩
  · by_cases h2 : k = 2
    · rw [decide_eq_true (show isReq k from Or.inr (Or.inl h2))]
      go_enter Try.func20, Try.ntmps20
      go_wp2
      go_ret
      exact ⟨rfl, rfl⟩
    · by_cases h3 : k = 3
      · rw [decide_eq_true (show isReq k from Or.inr (Or.inr h3))]
        go_enter Try.func20, Try.ntmps20
        go_wp2
        go_ret
        exact ⟨rfl, rfl⟩
      · rw [decide_eq_false (by unfold isReq; omega)]
        go_enter Try.func20, Try.ntmps20
        go_wp2
        go_ret
        exact ⟨rfl, rfl⟩
theorem boxE (w : World) (a b c : Int) (s : ByteArray) (mo : Option Addr) (m mc : Nat) (d : Int) : ∃ W, w.alloc (.cells #[.int .i64 a, .int .i64 b, .int .i64 c, .string s, .slice mo m mc, .int .i64 d] 31) = W ∧ Below w.heap.size w W ∧ W.heap[w.heap.size]? = some (.cells #[.int .i64 a, .int .i64 b, .int .i64 c, .string s, .slice mo m mc, .int .i64 d] 31 (0, 0)) :=
  ⟨_, rfl, (Below.refl _ w).alloc (Nat.le_refl _) _, box_at _ _⟩
set_option maxRecDepth 20000 in
set_option maxHeartbeats 2000000 in
theorem put_no {D : Nat → Prop} {w : World} {p q : Nat} {es : List En} (h : Tb D w p q es) (hl : es.length ≤ 1000000) (hr : Rise es) (e : En) (mo : Option Addr) (m mc : Nat) (hc : wf64 e.client) (hn : ¬ mayPut es e) :
    Calls Try.prog 12 #[.pointer (some ⟨p, 0, none⟩), .agg #[.int .i64 e.kind, .int .i64 e.client, .int .i64 e.seq, .string e.text, .slice mo m mc, .int .i64 e.dest]] w fun x w' => x = .returned (.tuple #[.int .i64 0, .bool false]) ∧ Below w.heap.size w w' := by
  obtain ⟨W, hW, bW, xW⟩ := boxE w e.kind e.client e.seq e.text mo m mc e.dest
  have CF := hide (find_any (h.below bW) hl hr e.client e.seq hc)
  have CQ := hide (fun Y => isRequest_any e.kind Y)
  obtain ⟨r, hrr⟩ : ∃ r, findOf es e.client e.seq = r := ⟨_, rfl⟩
  unfold mayPut at hn
  rw [hrr] at CF hn
  have HN := hide hn
  have k0 : W.cell? ⟨w.heap.size, 0, none⟩ = some (.int .i64 e.kind) := (cell_of_block xW).trans rfl
  have k1 : W.cell? ⟨w.heap.size, 1, none⟩ = some (.int .i64 e.client) := (cell_of_block xW).trans rfl
  have k2 : W.cell? ⟨w.heap.size, 2, none⟩ = some (.int .i64 e.seq) := (cell_of_block xW).trans rfl
  have XW := hide xW
  have HW := hide hW
  have BW := hide bW
  clear h hr hW bW xW hn hrr hc
  go_enter Try.func12, Try.ntmps12
  go_upto_region 1 with fail
  rw [unhide HW]
  go_wp2_with fail
  refine (unhide CF).mono ?_
  clear k0 k1 k2
  rintro x w1 ⟨v, rfl, hv, b1⟩
  have k0 : w1.cell? ⟨w.heap.size, 0, none⟩ = some (.int .i64 e.kind) := (cell_of_block (Below.stay b1 (unhide XW))).trans rfl
  have B1 := hide (below_far (unhide BW) b1)
  have HV := hide hv
  clear b1 hv CF
  by_cases hq : isReq e.kind
  · have CI : Hid (∀ Y, Below w1.heap.size w1 Y → Calls Try.prog 21 #[v, .iface 39 (.int .i64 2)] Y fun e w' => e = .returned (.bool false) ∧ Below Y.heap.size Y w') := hide (fun Y hY => by
      rcases unhide HV with ⟨-, rfl⟩ | ⟨h1, h2, b, rfl, hR⟩
      · exact (Is_nil 2 Y).mono (by rintro e w' ⟨rfl, rfl⟩; exact ⟨rfl, Below.refl _ _⟩)
      · have := Is_ref r.2 2 b Y (hR.below hY)
        rw [show (r.2 == 2) = false by have := unhide HN; simp only [hq, true_and] at this; simp [this]] at this
        exact this.mono (by rintro e w' ⟨rfl, rfl⟩; exact ⟨rfl, Below.refl _ _⟩))
    have hqd : decide (isReq e.kind) = true := decide_eq_true hq
    rw [hqd] at CQ
    clear hq hqd
    go_wp2_with fail
    refine (unhide CQ _).mono ?_
    rintro x w2 ⟨rfl, rfl⟩
    go_wp2_with fail
    refine (unhide CI _ (Below.refl _ _)).mono ?_
    rintro x w3 ⟨rfl, b3⟩
    have B3 := hide (below_far (unhide B1) b3)
    clear b3 k0
    go_wp2
    refine bodyPost_ret (v := .tuple #[.int .i64 0, .bool false]) (by simp [results, Try.results12, go_sem]) rfl ⟨rfl, unhide B3⟩
  · have hqd : decide (isReq e.kind) = false := decide_eq_false hq
    rw [hqd] at CQ
    clear hq hqd
    go_wp2_with fail
    refine (unhide CQ _).mono ?_
    rintro x w2 ⟨rfl, rfl⟩
    go_wp2
    refine bodyPost_ret (v := .tuple #[.int .i64 0, .bool false]) (by simp [results, Try.results12, go_sem]) rfl ⟨rfl, unhide B1⟩
/-- behind the append of the entry: its store into the table's box. -/
theorem log_fin {D E F : Nat → Prop} {w w5 : World} {p q : Nat} {rv v : Value} {es gs : List En} (hk : Kp D w w5) (hp : D p) (hb : w5.heap[p]? = some (.cells #[rv, .map (some q)] 54 (0, 0))) (hr : ERow E w5 v gs) (hm : Pm F w5 q es) (hqp : q ≠ p) (hFp : ¬ F p) :
    (w5.setCell ⟨p, 0, none⟩ v).heap[p]? = some (.cells #[v, .map (some q)] 54 (0, 0)) ∧ ERow E (w5.setCell ⟨p, 0, none⟩ v) v gs ∧ Pm F (w5.setCell ⟨p, 0, none⟩ v) q es ∧ Kp D w (w5.setCell ⟨p, 0, none⟩ v) :=
  ⟨setCell_block hb, hr.other (fun k hk => Below.heap_setCell _ _ _ k hk) hb, hm.kp (E := fun k => k = p) (Kp.setCell (D := fun k => k = p) (Kp.refl _ _) (p := ⟨p, 0, none⟩) rfl v) hqp (fun _k hk e => hFp (e ▸ hk)), hk.setCell (p := ⟨p, 0, none⟩) hp v⟩
theorem put_fin {D A F : Nat → Prop} {w w5 V w6 w7 : World} {p q : Nat} {v : Value} {gs : List En} {o : Obj} {row : Option Nat} (hA : ∀ k, A k → D k) (hF : ∀ k, F k → D k) (hAF : ∀ k, A k → ¬ F k) (hAp : ¬ A p) (hFp : ¬ F p) (hAq : ¬ A q) (hFq : ¬ F q) (hp : D p) (hq : D q) (hlt : ∀ k, D k → k < w.heap.size) (hqp : q ≠ p)
    (z1 : V.heap[p]? = some (.cells #[v, .map (some q)] 54 (0, 0))) (z2 : ERow (News A w w5) V v gs) (s5 : V.heap.size = w5.heap.size) (z4 : Kp D w V) (hpm : Pm (News F V.drew w7) w7 q gs)
    (g6 : (V.drew.alloc o).grownBy w6 row) (how : ∀ k, row = some k → F k) (g7 : w6.grownBy w7 (some q)) : Tb (News D w w7) w7 p q gs ∧ Kp D w w7 := by
  have sV : w.heap.size ≤ V.heap.size := z4.size
  have sD : V.drew.heap.size = V.heap.size := rfl
  have s6 : V.heap.size + 1 ≤ w6.heap.size := by have := g6.size; simp [World.size_alloc] at this; exact this
  have s7 : w6.heap.size ≤ w7.heap.size := g7.size
  have bV : Below V.heap.size V (V.drew.alloc o) := ((Below.refl _ V).drew).alloc (Nat.le_refl _) o
  have kF : Kp F V w6 := (Kp.of_below bV).grown g6 (fun k _ hx => how k hx)
  have kQ : Kp (fun k => k = q) w6 w7 := (Kp.refl _ w6).grown g7 (fun k _ hx => by cases hx; rfl)
  have hqlt := hlt q hq
  have hplt := hlt p hp
  refine ⟨⟨⟨News A w w5, News F V.drew w7, v, ?_, ?_, hpm, ?_, ?_, ?_, ?_, ?_, ?_, ?_⟩, ⟨Or.inl hp, Or.inl hq⟩, fun k hk => ?_⟩, ?_⟩
  · exact kQ.block (kF.block z1 hFp) (fun x => hqp x.symm)
  · refine (z2.kp kF (fun k hk hf => ?_)).kp kQ (fun k hk hx => ?_)
    · rcases hk with hk | hk
      · exact hAF k hk hf
      · have := hlt k (hF k hf); omega
    · subst hx
      rcases hk with hk | hk
      · exact hAq hk
      · omega
  · intro k hk
    rcases hk with hk | hk
    · exact Or.inl (hA k hk)
    · exact Or.inr ⟨hk.1, by omega⟩
  · intro k hk
    rcases hk with hk | hk
    · exact Or.inl (hF k hk)
    · exact Or.inr ⟨by omega, hk.2⟩
  · intro k hk hf
    rcases hk with hk | hk <;> rcases hf with hf | hf
    · exact hAF k hk hf
    · have := hlt k (hA k hk); omega
    · have := hlt k (hF k hf); omega
    · omega
  · intro hk
    rcases hk with hk | hk
    · exact hAp hk
    · omega
  · intro hk
    rcases hk with hk | hk
    · exact hFp hk
    · omega
  · intro hk
    rcases hk with hk | hk
    · exact hAq hk
    · omega
  · intro hk
    rcases hk with hk | hk
    · exact hFq hk
    · omega
  · rcases hk with hk | hk
    · have := hlt k hk; omega
    · exact hk.2
  · refine (z4.trans kF (fun j _ hj => hF j hj)).trans kQ (fun j _ hj => by subst hj; exact hq)
set_option maxRecDepth 20000 in
set_option maxHeartbeats 8000000 in
theorem put_ok {D : Nat → Prop} {w : World} {p q : Nat} {es : List En} (h : Tb D w p q es) (hl : es.length ≤ 100000) (hr : Rise es) (e : En) (mo : Option Addr) (m mc : Nat) (hnn : e.ms.length = m) (hln : m ≤ 1000000) (hw : IntsR w mo e.ms) (hc : wf64 e.client) (hn : mayPut es e) :
    Calls Try.prog 12 #[.pointer (some ⟨p, 0, none⟩), .agg #[.int .i64 e.kind, .int .i64 e.client, .int .i64 e.seq, .string e.text, .slice mo m mc, .int .i64 e.dest]] w fun x w' => x = .returned (.tuple #[.int .i64 ((es.length : Int) + 1), .bool true]) ∧ Tb (News D w w') w' p q (es ++ [e]) ∧ Kp D w w' := by
  obtain ⟨W, hW, bW, xW⟩ := boxE w e.kind e.client e.seq e.text mo m mc e.dest
  have CF := hide (find_any (h.below bW) (by omega) hr e.client e.seq hc)
  have CQ := isRequest_any e.kind
  rw [decide_eq_true hn.1] at CQ
  have CQ' := hide CQ
  obtain ⟨r, hrr⟩ : ∃ r, findOf es e.client e.seq = r := ⟨_, rfl⟩
  have h2 := hn.2
  rw [hrr] at CF h2
  have HN := hide h2
  obtain ⟨⟨A, F, rv, hbx, hrow, hpm, hA, hF, hAF, hAp, hFp, hAq, hFq⟩, ⟨hDp, hDq⟩, hlt⟩ := h
  obtain ⟨ao, ca, rfl, -⟩ := hrow.slice
  have hqp : q ≠ p := fun x => by
    subst x
    obtain ⟨ms, cl, hm⟩ := hpm.isMap
    rw [hm] at hbx; cases hbx
  obtain ⟨L, hL⟩ : ∃ L, es.length = L := ⟨_, rfl⟩
  rw [hL] at hbx hrow hl
  have k0 : W.cell? ⟨w.heap.size, 0, none⟩ = some (.int .i64 e.kind) := (cell_of_block xW).trans rfl
  have k1 : W.cell? ⟨w.heap.size, 1, none⟩ = some (.int .i64 e.client) := (cell_of_block xW).trans rfl
  have k2 : W.cell? ⟨w.heap.size, 2, none⟩ = some (.int .i64 e.seq) := (cell_of_block xW).trans rfl
  have k3 : W.cell? ⟨w.heap.size, 3, none⟩ = some (.string e.text) := (cell_of_block xW).trans rfl
  have k4 : W.cell? ⟨w.heap.size, 4, none⟩ = some (.slice mo m mc) := (cell_of_block xW).trans rfl
  have k5 : W.cell? ⟨w.heap.size, 5, none⟩ = some (.int .i64 e.dest) := (cell_of_block xW).trans rfl
  have XW := hide xW
  have HW := hide hW
  have BW := hide bW
  have HBX := hide hbx
  have HR := hide hrow
  have HPM := hide hpm
  have HSET := hide (And.intro hA (And.intro hF (And.intro hAF (And.intro hAp (And.intro hFp (And.intro hAq hFq))))))
  have HDD := hide (And.intro hDp hDq)
  have HLT := hide hlt
  have HI := hide hw
  have HNN := hide hnn
  have HC := hide hc
  have HL := hide hL
  have HQP := hide hqp
  clear hr hW bW xW hn h2 hrr hbx hrow hpm hA hF hAF hAp hFp hAq hFq hDp hDq hlt hw hnn hc hL hqp CQ
  go_enter Try.func12, Try.ntmps12
  go_upto_region 1 with fail
  rw [unhide HW]
  go_wp2_with fail
  refine (unhide CF).mono ?_
  clear k0 k1 k2 k3 k4 k5
  rintro x w1 ⟨v, rfl, hv, b1⟩
  obtain ⟨b, rfl, hR⟩ : ∃ b, v = refV b ∧ Ref w1 b 2 := by
    rcases hv with ⟨h0, -⟩ | ⟨-, -, b, rfl, hR⟩
    · rw [unhide HN] at h0; cases h0
    · rw [unhide HN] at hR; exact ⟨b, rfl, hR⟩
  have CI := hide (Is_ref 2 2 b w1 hR)
  have bw1 := below_far (unhide BW) b1
  have x1 := Below.stay b1 (unhide XW)
  have p1 := Below.stay bw1 (unhide HBX)
  have k0' : w1.cell? ⟨w.heap.size, 0, none⟩ = some (.int .i64 e.kind) := (cell_of_block x1).trans rfl
  have k1' : w1.cell? ⟨w.heap.size, 1, none⟩ = some (.int .i64 e.client) := (cell_of_block x1).trans rfl
  have k2' : w1.cell? ⟨w.heap.size, 2, none⟩ = some (.int .i64 e.seq) := (cell_of_block x1).trans rfl
  have k3' : w1.cell? ⟨w.heap.size, 3, none⟩ = some (.string e.text) := (cell_of_block x1).trans rfl
  have k4' : w1.cell? ⟨w.heap.size, 4, none⟩ = some (.slice mo m mc) := (cell_of_block x1).trans rfl
  have k5' : w1.cell? ⟨w.heap.size, 5, none⟩ = some (.int .i64 e.dest) := (cell_of_block x1).trans rfl
  have k0 : w1.drew.cell? ⟨w.heap.size, 0, none⟩ = some (.int .i64 e.kind) := (cell_of_block (w := w1.drew) x1).trans rfl
  have k1 : w1.drew.cell? ⟨w.heap.size, 1, none⟩ = some (.int .i64 e.client) := (cell_of_block (w := w1.drew) x1).trans rfl
  have k2 : w1.drew.cell? ⟨w.heap.size, 2, none⟩ = some (.int .i64 e.seq) := (cell_of_block (w := w1.drew) x1).trans rfl
  have k3 : w1.drew.cell? ⟨w.heap.size, 3, none⟩ = some (.string e.text) := (cell_of_block (w := w1.drew) x1).trans rfl
  have k4 : w1.drew.cell? ⟨w.heap.size, 4, none⟩ = some (.slice mo m mc) := (cell_of_block (w := w1.drew) x1).trans rfl
  have k5 : w1.drew.cell? ⟨w.heap.size, 5, none⟩ = some (.int .i64 e.dest) := (cell_of_block (w := w1.drew) x1).trans rfl
  have c0 : w1.drew.cell? ⟨p, 0, none⟩ = some (.slice ao L ca) := (cell_of_block (w := w1.drew) p1).trans rfl
  have PW := hide p1
  have HB := hide ((unhide HI).below bw1)
  have B1 := hide bw1
  have X1 := hide x1
  clear p1 x1 bw1 b1 hR hv CF HW XW BW
  unfold refV
  go_wp2_with fail
  refine (unhide CQ' _).mono ?_
  rintro x w2 ⟨rfl, rfl⟩
  unfold refV at CI
  go_wp2_with fail
  refine (unhide CI).mono ?_
  rintro x w3 ⟨rfl, rfl⟩
  clear k0' k1' k2' k3' k4' k5'
  go_upto_region 4 with fail
  go_region_law (first
    | (refine step_twin (.tmp 33) rfl rfl e mo m mc rfl (unhide HNN) (IntsR.below (unhide HB) ((Below.refl _ _).drew)) hln ?_
       intro mo' mc' w2 o2 b2
       have b3 := ((Below.refl _ _).drew).trans b2
       have o3 := o2.more (Nat.zero_le _)
       have O2 := hide o2
       have O3 := hide o3
       have B2 := hide b3
       have c2 : w2.cell? ⟨p, 0, none⟩ = some (.slice ao L ca) := (cell_of_block (Below.stay b3 (unhide PW))).trans rfl
       have A3 := hide (fun o => (Below.refl w2.heap.size w2).alloc (Nat.le_refl _) o)
       have P3 := hide (fun o => Below.stay (unhide A3 o) (Below.stay b3 (unhide PW)))
       have cA : (w2.alloc (.cells #[.int .i64 e.kind, .int .i64 e.client, .int .i64 e.seq, .string e.text, .slice mo' m mc', .int .i64 e.dest] 31)).cell? ⟨p, 0, none⟩ = some (.slice ao L ca) := (cell_of_block (unhide P3 _)).trans rfl
       have bA := hide (below_far (below_far (unhide B1) b3) (unhide A3 (.cells #[.int .i64 e.kind, .int .i64 e.client, .int .i64 e.seq, .string e.text, .slice mo' m mc', .int .i64 e.dest] 31)))
       have m3 : Ir 0 (w2.alloc (.cells #[.int .i64 e.kind, .int .i64 e.client, .int .i64 e.seq, .string e.text, .slice mo' m mc', .int .i64 e.dest] 31)) (.slice mo' m mc') e.ms := Ir.below o3 (unhide A3 _)
       have d3 : ∀ k, (Value.slice mo' m mc').ownBlock = some k → News A w (w2.alloc (.cells #[.int .i64 e.kind, .int .i64 e.client, .int .i64 e.seq, .string e.text, .slice mo' m mc', .int .i64 e.dest] 31)) k := fun k hk => Or.inr ⟨Nat.le_trans (unhide B1).size (o2.lt k hk).1, Nat.lt_of_lt_of_le (o2.lt k hk).2 (unhide A3 _).size⟩
       have r3 : ERow (News A w (w2.alloc (.cells #[.int .i64 e.kind, .int .i64 e.client, .int .i64 e.seq, .string e.text, .slice mo' m mc', .int .i64 e.dest] 31))) (w2.alloc (.cells #[.int .i64 e.kind, .int .i64 e.client, .int .i64 e.seq, .string e.text, .slice mo' m mc', .int .i64 e.dest] 31)) (.slice ao L ca) es := ((unhide HR).below (unhide bA)).mono (fun k hk => Or.inl hk)
       obtain ⟨v5, w5, hr5, y5, g5⟩ := run_pushEn r3 22 w2.heap.size e (.slice mo' m mc') (box_at w2 _) m3 d3 (by rw [unhide HNN]; exact hln) (by rw [unhide HL]; omega)
       have R3 := hide r3
       have Y5 := hide y5
       have G5 := hide g5
       have HR5 := hide hr5
       have M2 := hide (fun k hk => (o2.lt k hk))
       clear b2 b3 o2 o3 m3 d3 r3 y5 g5 hr5)
    | (refine step_run (.tmp 32) (.tmp 35) 22 rfl rfl rfl rfl (unhide HR5) ?_
       obtain ⟨ao5, cap5, rfl, -⟩ := (unhide Y5).slice
       have p5 : w5.heap[p]? = some (.cells #[.slice ao L ca, .map (some q)] 54 (0, 0)) := ((unhide G5).block p (heap_lt (unhide P3 _)) (fun x => by
         obtain ⟨-, cur, fr, hc⟩ := (unhide R3).tag p x.symm
         have hq := unhide P3 (.cells #[.int .i64 e.kind, .int .i64 e.client, .int .i64 e.seq, .string e.text, .slice mo' m mc', .int .i64 e.dest] 31)
         rw [hc] at hq; cases hq)).trans (unhide P3 _)
       have c5 : w5.cell? ⟨p, 0, none⟩ = some (.slice ao L ca) := (cell_of_block p5).trans rfl
       have f5 : w5.frozen? ⟨p, 0, none⟩ = false := free_of_block p5
       have P5 := hide p5
       clear p5)
    | fail)
  all_goals
    obtain ⟨hA, hF, hAF, hAp, hFp, hAq, hFq⟩ := unhide HSET
    have tg := fun k (hk : (Value.slice ao L ca).ownBlock = some k) => (unhide HR).tag k hk
    have s5 : (w2.alloc (.cells #[.int .i64 e.kind, .int .i64 e.client, .int .i64 e.seq, .string e.text, .slice mo' m mc', .int .i64 e.dest] 31)).heap.size ≤ w5.heap.size := (unhide G5).size
    have k5 : Kp D w w5 := (Kp.of_below (unhide bA)).grown (unhide G5) (fun k hk hx => hA k (tg k hx).1)
    have r5 : ERow (News A w w5) w5 (.slice ao5 (es ++ [e]).length cap5) (es ++ [e]) := (unhide Y5).mono (fun k hk => News.sub (unhide bA).size s5 hk)
    have m5 : Pm F w5 q es := (unhide HPM).kp ((Kp.of_below (D := A) (unhide bA)).grown (unhide G5) (fun k hk hx => (tg k hx).1)) hAq (fun k hk hx => hAF k hx hk)
    rw [show (es ++ [e]).length = L + 1 by rw [List.length_append, unhide HL]; rfl] at r5
    obtain ⟨z1, z2, z3, z4⟩ := log_fin k5 (unhide HDD).1 (unhide P5) r5 m5 (unhide HQP) hFp
    have zb : (w5.setCell ⟨p, 0, none⟩ (.slice ao5 (L + 1) cap5)).heap[w.heap.size]? = some (.cells #[.int .i64 e.kind, .int .i64 e.client, .int .i64 e.seq, .string e.text, .slice mo m mc, .int .i64 e.dest] 31 (0, 0)) := by
      have hne : w.heap.size ≠ p := fun x => by have := unhide HLT p (unhide HDD).1; omega
      rw [Below.heap_setCell _ _ _ _ hne]
      have hx2 := Below.stay (unhide A3 (.cells #[.int .i64 e.kind, .int .i64 e.client, .int .i64 e.seq, .string e.text, .slice mo' m mc', .int .i64 e.dest] 31)) (Below.stay (unhide B2) (unhide X1))
      refine ((unhide G5).block _ (heap_lt hx2) (fun x => ?_)).trans hx2
      have := unhide HLT _ (hA _ (tg _ x.symm).1)
      omega
    obtain ⟨V, hV⟩ : ∃ V, w5.setCell ⟨p, 0, none⟩ (.slice ao5 (L + 1) cap5) = V := ⟨_, rfl⟩
    have sV : V.heap.size = w5.heap.size := by rw [← hV]; simp [World.setCell]
    rw [hV] at z1 z2 z3 z4 zb
    have hF' : ∀ k, F k → k < V.heap.size := fun k hk => Nat.lt_of_lt_of_le (unhide HLT k (hF k hk)) z4.size
    obtain ⟨pao, pn, pcap, lk, pao', pn', pcap', w6, w7, hap, hup, hpm7, g6, g7, how⟩ := (z3.below (Below.refl _ V).drew).add (fun k hk => hF' k hk) (unhide HC) (by rw [unhide HL]; omega) ((L : Int) + 1) (by rw [unhide HL]) 23
    have hne6 : ∀ {k : Nat} {oo : Obj}, V.heap[k]? = some oo → ¬ F k → w6.heap[k]? = some oo := fun hk hf => by
      have hk' := Below.stay (((Below.refl _ V).drew).alloc (Nat.le_refl _) (.cells #[.int .i64 ((L : Int) + 1)] 3)) hk
      exact (g6.block _ (heap_lt hk') (fun x => hf (how _ x.symm))).trans hk'
    have hFw : ¬ F w.heap.size := fun x => by have := unhide HLT _ (hF _ x); omega
    have FIN := hide (put_fin hA hF hAF hAp hFp hAq hFq (unhide HDD).1 (unhide HDD).2 (unhide HLT) (unhide HQP) z1 z2 sV z4 hpm7 g6 how g7)
    have cv0 : V.cell? ⟨p, 0, none⟩ = some (.slice ao5 (L + 1) cap5) := (cell_of_block z1).trans rfl
    have cd1 : V.drew.cell? ⟨p, 1, none⟩ = some (.map (some q)) := (cell_of_block (w := V.drew) z1).trans rfl
    have kd1 : V.drew.cell? ⟨w.heap.size, 1, none⟩ = some (.int .i64 e.client) := (cell_of_block (w := V.drew) zb).trans rfl
    have ca1 : (V.alloc (.cells #[.int .i64 ((L : Int) + 1)] 3)).drew.cell? ⟨p, 1, none⟩ = some (.map (some q)) := (cell_of_block (Below.stay (((Below.refl _ V).drew).alloc (Nat.le_refl _) (.cells #[.int .i64 ((L : Int) + 1)] 3)) z1)).trans rfl
    have ka1 : (V.alloc (.cells #[.int .i64 ((L : Int) + 1)] 3)).drew.cell? ⟨w.heap.size, 1, none⟩ = some (.int .i64 e.client) := (cell_of_block (Below.stay (((Below.refl _ V).drew).alloc (Nat.le_refl _) (.cells #[.int .i64 ((L : Int) + 1)] 3)) zb)).trans rfl
    have cs1 : w6.cell? ⟨p, 1, none⟩ = some (.map (some q)) := (cell_of_block (hne6 z1 hFp)).trans rfl
    have ks1 : w6.cell? ⟨w.heap.size, 1, none⟩ = some (.int .i64 e.client) := (cell_of_block (hne6 zb hFw)).trans rfl
    have SX0 := hide (And.intro cd1 kd1)
    have SX1 := hide (And.intro ca1 ka1)
    have SX2 := hide (And.intro cs1 ks1)
    have hqb : q ≠ w.heap.size := fun x => by have := unhide HLT q (unhide HDD).2; omega
    have hpb := unhide HQP
    have cz1 : w7.cell? ⟨p, 1, none⟩ = some (.map (some q)) := (cell_of_block ((g7.block p (heap_lt (hne6 z1 hFp)) (fun x => hpb (by cases x; rfl))).trans (hne6 z1 hFp))).trans rfl
    have kz1 : w7.cell? ⟨w.heap.size, 1, none⟩ = some (.int .i64 e.client) := (cell_of_block ((g7.block w.heap.size (heap_lt (hne6 zb hFw)) (fun x => hqb (by cases x; rfl))).trans (hne6 zb hFw))).trans rfl
    have SX3 := hide (And.intro cz1 kz1)
    clear cz1 kz1 hqb hpb
    have lk1 := lk _ (Below.refl _ V.drew)
    have lk2 : (Instr.lookup 52 (.map (some q)) (.int .i64 e.client) false).run Try.prog (V.alloc (.cells #[.int .i64 ((L : Int) + 1)] 3)).drew = .ok (.slice pao pn pcap) (V.alloc (.cells #[.int .i64 ((L : Int) + 1)] 3)).drew := lk _ ((Below.refl _ V.drew).alloc (Nat.le_refl _) (.cells #[.int .i64 ((L : Int) + 1)] 3))
    have HAP : Hid ((Builtin.append_ #[23, 23] 23 #[.slice pao pn pcap, .slice (some ⟨V.heap.size, 0, none⟩) 1 1]).run Try.prog (V.alloc (.cells #[.int .i64 ((L : Int) + 1)] 3)).drew = .ok (.slice pao' pn' pcap') w6) := hide hap
    have HV : Hid (w5.setCell ⟨p, 0, none⟩ (.slice ao5 (es.length + 1) cap5) = V) := hide (by rw [unhide HL]; exact hV)
    clear z1 z2 z3 z4 zb hF' hpm7 g6 g7 how hne6 hap lk hV sV r5 m5 k5 s5 tg hA hF hAF hAp hFp hAq hFq hFw c5 f5 HR5 Y5 G5 R3 P3 A3 P5 cA c2
    clear c0 k0 k1 k2 k3 k4 k5
  all_goals
    go_upto_region 5 with fail
    rw [unhide HV]
    go_upto_region 6 with fail
    go_region_held3 (fun Y => Y.cell? ⟨p, 1, none⟩ = some (.map (some q)) ∧ Y.cell? ⟨w.heap.size, 1, none⟩ = some (.int .i64 e.client))
      (first | with_reducible exact unhide SX0 | with_reducible exact unhide SX1 | with_reducible exact unhide SX2 | with_reducible exact unhide SX3 | fail)
      (first
      | (with_reducible refine step_run (.tmp 56) (.tmp 58) 23 (by with_unfolding_all rfl) (by with_unfolding_all rfl) (by with_unfolding_all rfl) (by with_unfolding_all rfl) (unhide HAP) ?_)
      | fail)
  all_goals go_wp2
  all_goals refine bodyPost_ret (v := .tuple #[.int .i64 ((L : Int) + 1), .bool true]) (by simp [results, Try.results12, go_sem]) rfl ?_
  all_goals rw [unhide HL]
  all_goals exact ⟨rfl, (unhide FIN).1, (unhide FIN).2⟩
end Go.Proofs.Ytkalpdfigdaalaa

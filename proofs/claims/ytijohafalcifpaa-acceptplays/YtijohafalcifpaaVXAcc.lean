/- synodalref13: Accept: a contract. -/
import Derived.Test.YtijohafalcifpaaVX
namespace Go.Proofs.Ytijohafalcifpaa
open Go.RowKit Go.Maps

set_option maxRecDepth 20000 in
theorem xaccept_no {low base : Nat} {x : Nat} {P : Int} {f : Vf} (w : World) (b s : Int) (e : En) (mo : Option Addr) (mc : Nat) (h : Xa low base w x P f) (hn : noOf P b (decide (s < 1 ∨ 64 < s)) ≠ 0) :
    Calls Try.prog 13 #[.pointer (some ⟨x, 0, none⟩), .int .i64 b, .int .i64 s, .agg #[.int .i64 e.kind, .int .i64 e.client, .int .i64 e.seq, .string e.text, .slice mo e.ms.length mc, .int .i64 e.dest]] w fun r w' => r = .returned (.int .i64 (noOf P b (decide (s < 1 ∨ 64 < s)))) ∧ Below w.heap.size w w' := by
  obtain ⟨rv, h1, -⟩ := h.box
  obtain ⟨W, hW⟩ : ∃ W, w.alloc (.cells #[.int .i64 e.kind, .int .i64 e.client, .int .i64 e.seq, .string e.text, .slice mo e.ms.length mc, .int .i64 e.dest] 32) = W := ⟨_, rfl⟩
  have bW : Below w.heap.size w W := by rw [← hW]; exact (Below.refl _ w).alloc (Nat.le_refl _) _
  have c0 : W.cell? ⟨x, 0, none⟩ = some (.int .i64 P) := (cell_of_block (Below.stay bW h1)).trans rfl
  obtain ⟨no, hno⟩ : ∃ no, noOf P b (decide (s < 1 ∨ 64 < s)) = no := ⟨_, rfl⟩
  rw [hno] at hn ⊢
  have HW := hide hW
  have BW := hide bW
  clear h h1 hW bW
  by_cases hb : b < 1
  · obtain rfl : no = 1 := by rw [← hno]; unfold noOf; rw [if_pos (Or.inl hb)]
    clear hno hn
    go_enter Try.func13, Try.ntmps13
    go_upto_region 1 with fail
    rw [unhide HW]
    go_wp2
    go_ret
    exact ⟨rfl, unhide BW⟩
  · by_cases hs : s < 1
    · obtain rfl : no = 1 := by rw [← hno]; unfold noOf; rw [if_pos (Or.inr (decide_eq_true (Or.inl hs)))]
      clear hno hn
      go_enter Try.func13, Try.ntmps13
      go_upto_region 1 with fail
      rw [unhide HW]
      go_wp2
      go_ret
      exact ⟨rfl, unhide BW⟩
    · by_cases hs2 : 64 < s
      · obtain rfl : no = 1 := by rw [← hno]; unfold noOf; rw [if_pos (Or.inr (decide_eq_true (Or.inr hs2)))]
        clear hno hn
        go_enter Try.func13, Try.ntmps13
        go_upto_region 1 with fail
        rw [unhide HW]
        go_wp2
        go_ret
        exact ⟨rfl, unhide BW⟩
      · by_cases hP : b < P
        · obtain rfl : no = 19 := by rw [← hno]; unfold noOf; rw [decide_eq_false (by omega), if_neg (by simp; omega), if_pos hP]
          clear hno hn
          go_enter Try.func13, Try.ntmps13
          go_upto_region 1 with fail
          rw [unhide HW]
          go_wp2
          go_ret
          exact ⟨rfl, unhide BW⟩
        · exact absurd (by rw [← hno]; unfold noOf; rw [decide_eq_false (by omega), if_neg (by simp; omega), if_neg hP]) hn
/-- a slice up to a place: its votes lie where they lay. -/
theorem upto_same {low : Nat} {w : World} {ao : Option Addr} {cap : Nat} {vs : List Vt} (h : VsL low w ao vs) : VsL low w (if cap = 0 then ao else ao.map (fun x => x.add (0 * 8))) vs := fun i v hi => by
  obtain ⟨g, off, mo, mc, rfl, h2⟩ := h i v hi
  refine ⟨g, off, mo, mc, ?_, h2⟩
  split
  · rfl
  · rfl
theorem from_drop {low : Nat} {w : World} {ao : Option Addr} {cap K n : Nat} {vs : List Vt} (hn : vs.length = n) (hc : n ≤ cap) (h : VsL low w ao vs) : VsL low w (if cap = K then ao else ao.map (fun x => x.add (K * 8))) (vs.drop K) := by
  by_cases hcK : cap = K
  · have : vs.drop K = [] := List.drop_of_length_le (by omega)
    rw [this]; exact fun i v hi => by simp at hi
  · rw [if_neg hcK]
    cases vs with
    | nil => exact fun i v hi => by simp at hi
    | cons u us =>
      obtain ⟨g, off, _, _, rfl, _⟩ := h 0 u rfl
      have h2 := VsL.drop h K
      rw [Option.map_some, Addr.add_lit]; exact h2
set_option maxRecDepth 20000 in
theorem wpList_upto {w : World} {ops : Array Oper} {rest : List Oper} {o : Oper} {a : Act} {Q : Exit → Act → World → Prop} (hgd : o.guard = none) (s x : Operand)
    (ho : o.op = .slice 27 s none (some x) none) (ao : Option Addr) (n cap K : Nat) (hs : a.eval s = .slice ao n cap) (hx : a.eval x = .int .i64 (K : Int)) (hK : K ≤ cap) (low : Nat)
    (hk : ∀ ao', (∀ vs, VsL low w ao vs → VsL low w ao' vs) → wpList Try.prog ops Q rest (a.put o.dst (.slice ao' K cap)) w) : wpList Try.prog ops Q (o :: rest) a w := by
  refine wpList_plain hgd fun K' hK' => ?_
  have hsz : (sizeOf (Try.prog.elem 27)).run Try.prog w = .ok 8 w := by kernel_rfl
  have hr := run_slice_h (P := Try.prog) (w := w) 27 ao n cap Try.underlying27 .i64 (K : Int) (by omega) (by omega)
  rw [hsz] at hr
  simp only [Result.andThen_ok, sliced, Int.toNat_natCast, Nat.sub_zero] at hr
  have hr2 : (Instr.sliceAt 27 (.slice ao n cap) none (some (.int .i64 (K : Int))) none).run Try.prog w = _ := (run_sliceAt_slice (P := Try.prog) (w := w) 27 _ _ _ _ Try.underlying27).trans hr
  unfold Oper.wp execOp
  simp only [ho, hs, hx, Option.map_some, Option.map_none, hr2, Result.andThen_ok, Sem.run_bind, Sem.run_pure]
  exact hK' _ _ (hk _ (fun _ h => upto_same h))
set_option maxRecDepth 20000 in
theorem wpList_from {w : World} {ops : Array Oper} {rest : List Oper} {o : Oper} {a : Act} {Q : Exit → Act → World → Prop} (hgd : o.guard = none) (s x : Operand)
    (ho : o.op = .slice 27 s (some x) none none) (ao : Option Addr) (n cap K : Nat) (hs : a.eval s = .slice ao n cap) (hx : a.eval x = .int .i64 (K : Int)) (hK : K ≤ n) (hc : n ≤ cap) (low : Nat)
    (hk : ∀ ao', (∀ vs : List Vt, vs.length = n → VsL low w ao vs → VsL low w ao' (vs.drop K)) → wpList Try.prog ops Q rest (a.put o.dst (.slice ao' (n - K) (cap - K))) w) : wpList Try.prog ops Q (o :: rest) a w := by
  refine wpList_plain hgd fun K' hK' => ?_
  have hsz : (sizeOf (Try.prog.elem 27)).run Try.prog w = .ok 8 w := by kernel_rfl
  have hr := run_slice_l (P := Try.prog) (w := w) 27 ao n cap Try.underlying27 .i64 (K : Int) (by omega) (by omega)
  rw [hsz] at hr
  simp only [Result.andThen_ok, sliced, Int.toNat_natCast] at hr
  have hr2 : (Instr.sliceAt 27 (.slice ao n cap) (some (.int .i64 (K : Int))) none none).run Try.prog w = _ := (run_sliceAt_slice (P := Try.prog) (w := w) 27 _ _ _ _ Try.underlying27).trans hr
  unfold Oper.wp execOp
  simp only [ho, hs, hx, Option.map_some, Option.map_none, hr2, Result.andThen_ok, Sem.run_bind, Sem.run_pure]
  exact hK' _ _ (hk _ (fun _ hl h => from_drop hl hc h))
/-- the end: the new row is stored. -/
theorem xacc_fin {low base x : Nat} {b s : Int} {e : En} {f : Vf} {w W w4 w6 V : World} {A R : List Vt} {v4 v6 : Value} {ao : Option Addr} {n cap : Nat} (hput : allOf (f.put s b e) = A ++ ([⟨s, b, e⟩] ++ R)) (hlb : low ≤ base ∧ base ≤ w.heap.size) (sW : w.heap.size ≤ W.heap.size) (KW : Kp (fun k => k = x) w W) (b4 : Below W.heap.size W w4)
    (r4 : VRowL 55 low W.heap.size w4 v4 (A ++ [⟨s, b, e⟩])) (x6 : w6.heap[x]? = some (.cells #[.int .i64 b, .slice ao n cap] 29 (0, 0))) (r6 : VRowL 55 low W.heap.size w6 v6 ((A ++ [⟨s, b, e⟩]) ++ R)) (g6 : w4.grownBy w6 v4.ownBlock) (hx : base ≤ x) (hV : w6.setCell ⟨x, 1, none⟩ v6 = V) :
    Xa low base V x b (f.put s b e) ∧ Kp (fun k => k = x) w V := by
  have b6 : Below W.heap.size W w6 := b4.grown g6 b4.size (fun k hk => (r4.row.tag k hk).1)
  have kV : Kp (fun k => k = x) w6 V := by rw [← hV]; exact Kp.setCell (D := fun k => k = x) (Kp.refl _ _) (p := ⟨x, 1, none⟩) rfl _
  have xV : V.heap[x]? = some (.cells #[.int .i64 b, v6] 29 (0, 0)) := by rw [← hV]; exact setCell_block x6
  have fV : Far low [3, 55] w6 (fun k => k = x) := fun k hk _ => ⟨by rw [hk]; omega, fun cur e fr hc => by rw [hk, x6] at hc; cases hc; decide⟩
  refine ⟨⟨v6, xV, ?_⟩, (KW.trans (Kp.of_below b6) (fun _ _ y => y)).trans kV (fun _ _ y => y)⟩
  rw [hput, ← List.append_assoc]
  exact (r6.far kV fV (by simp)).mono (by omega)
/-- all votes, apart at a slot: what is ahead, what is behind. -/
theorem all_parts (f : Vf) {s : Int} (h1 : 1 ≤ s) (h2 : s ≤ 64) : ∃ A R : List Vt, allOf f = A ++ (f.at s ++ R) ∧ (∀ v ∈ A, v.slot < s) ∧ (∀ v ∈ R, s < v.slot) ∧ ∀ b e, allOf (f.put s b e) = A ++ ([⟨s, b, e⟩] ++ R) :=
  ⟨_, _, all_split f h1 h2, fun v hv => by have := toldN_slot hv; omega, fun v hv => by have := toldN_slot hv; omega, fun b e => all_put f h1 h2⟩
set_option maxRecDepth 20000 in
set_option maxHeartbeats 40000000 in
theorem xaccept_ok {low base : Nat} {x : Nat} {P : Int} {f : Vf} (w : World) (b s : Int) (e : En) (mo : Option Addr) (mc : Nat) (h : Xa low base w x P f) (hlb : low ≤ base) (hbs : base ≤ w.heap.size) (hx : base ≤ x) (hi : InF (fun k => k < low) w mo e.ms) (hl : e.ms.length ≤ 1000000) (hn : noOf P b (decide (s < 1 ∨ 64 < s)) = 0) :
    Calls Try.prog 13 #[.pointer (some ⟨x, 0, none⟩), .int .i64 b, .int .i64 s, .agg #[.int .i64 e.kind, .int .i64 e.client, .int .i64 e.seq, .string e.text, .slice mo e.ms.length mc, .int .i64 e.dest]] w fun r w' => r = .returned (.int .i64 0) ∧ Xa low base w' x b (f.put s b e) ∧ Kp (fun k => k = x) w w' := by
  obtain ⟨hb1, hbad, hPb⟩ := noOf_zero hn
  have hs12 := of_decide_eq_false hbad
  have s1 : ¬ s < 1 := by omega
  have s2 : ¬ 64 < s := by omega
  obtain ⟨A, R, hall, hA, hR, hput⟩ := all_parts f (s := s) (by omega) (by omega)
  obtain ⟨rv, h1, h2⟩ := h.box
  obtain ⟨ao, cap, rfl, hcap, hcm⟩ := h2.row.slice
  obtain ⟨n, hnl⟩ : ∃ n, (allOf f).length = n := ⟨_, rfl⟩
  have hn64 : n ≤ 64 := by rw [← hnl]; exact toldN_len f 1 64
  rw [hnl] at h1 h2 hcap
  obtain ⟨W0, hW0⟩ : ∃ W, w.alloc (.cells #[.int .i64 e.kind, .int .i64 e.client, .int .i64 e.seq, .string e.text, .slice mo e.ms.length mc, .int .i64 e.dest] 32) = W := ⟨_, rfl⟩
  have b0 : Below w.heap.size w W0 := by rw [← hW0]; exact (Below.refl _ w).alloc (Nat.le_refl _) _
  have e0 : W0.heap[w.heap.size]? = some (.cells #[.int .i64 e.kind, .int .i64 e.client, .int .i64 e.seq, .string e.text, .slice mo e.ms.length mc, .int .i64 e.dest] 32 (0, 0)) := by rw [← hW0]; exact box_at _ _
  have x0 := Below.stay b0 h1
  have c0 : W0.cell? ⟨x, 0, none⟩ = some (.int .i64 P) := (cell_of_block x0).trans rfl
  have f0 : W0.frozen? ⟨x, 0, none⟩ = false := free_of_block x0
  obtain ⟨W, hW⟩ : ∃ W, W0.setCell ⟨x, 0, none⟩ (.int .i64 b) = W := ⟨_, rfl⟩
  have kW : Kp (fun k => k = x) W0 W := by rw [← hW]; exact Kp.setCell (D := fun k => k = x) (Kp.refl _ _) (p := ⟨x, 0, none⟩) rfl _
  have xW : W.heap[x]? = some (.cells #[.int .i64 b, .slice ao n cap] 29 (0, 0)) := by rw [← hW]; exact setCell_block x0
  have fW : Far low [3, 55, 32] W0 (fun k => k = x) := fun k hk _ => ⟨by rw [hk]; omega, fun cur e fr hc => by rw [hk, x0] at hc; cases hc; decide⟩
  have rW : VRowL 55 low base W (.slice ao n cap) (allOf f) := (h2.below b0).far kW fW (by simp)
  have eW : W.heap[w.heap.size]? = some (.cells #[.int .i64 e.kind, .int .i64 e.client, .int .i64 e.seq, .string e.text, .slice mo e.ms.length mc, .int .i64 e.dest] 32 (0, 0)) := kW.block e0 (fun y => by have := heap_lt h1; omega)
  have iW : InF (fun k => k < low) W mo e.ms := (hi.below b0).far kW fW
  have sW : w.heap.size ≤ W.heap.size := Nat.le_trans b0.size kW.size
  have b1 : ¬ b < 1 := by omega
  have b2 : ¬ b < P := by omega
  have cV : W.cell? ⟨x, 1, none⟩ = some (.slice ao n cap) := (cell_of_block xW).trans rfl
  have KW := hide ((Kp.of_below (D := fun k => k = x) b0).trans kW (fun _ _ y => y))
  have XW := hide xW
  have RW := hide rW
  have EW := hide eW
  have IW := hide iW
  have HW0 := hide hW0
  have HW := hide hW
  have HNL := hide hnl
  have HS := hide sW
  have HLB := hide (And.intro hlb hbs)
  have HALL := hide hall
  have HA := hide hA
  have HR := hide hR
  have HPUT := hide (hput b e)
  have HX := hide hx
  have HLO : Hid (low ≤ W.heap.size) := hide (by omega)
  have hKn : A.length ≤ n := by rw [← hnl, hall]; simp
  obtain ⟨K, hK⟩ : ∃ K, A.length = K := ⟨_, rfl⟩
  rw [hK] at hKn
  have HK := hide hK
  clear h h1 h2 hW0 hW kW xW fW rW eW iW hcm hnl hn sW hlb hbs hx hb1 hPb hall hA hR hput hbad hs12 hi x0 e0 b0 hK
  go_enter Try.func13, Try.ntmps13
  go_upto_region 1 with fail
  rw [unhide HW0]
  go_upto_region 6 with fail
  rw [unhide HW]
  clear c0 f0
  go_wp2_with fail
  go_loopw [9] (fun iv wr => ∃ k : Nat, k ≤ K ∧ iv = .int .i64 (k : Int) ∧ wr = W) (fun iv _ => n - (intOf iv).toNat)
  case atStart => exact ⟨0, Nat.zero_le _, rfl, rfl⟩
  case round =>
    obtain ⟨k, hk, rfl, hwr⟩ := hrel
    subst hwr
    by_cases hlt : k < K
    · obtain ⟨v, hv⟩ : ∃ v, A[k]? = some v := ⟨_, List.getElem?_eq_getElem (by rw [unhide HK]; exact hlt)⟩
      have hv2 : (allOf f)[k]? = some v := by rw [unhide HALL, List.getElem?_append_left (by rw [unhide HK]; exact hlt)]; exact hv
      have hvs := unhide HA v (List.mem_of_getElem? hv)
      obtain ⟨g, off, mo2, mc2, rfl, d0, -⟩ := ((unhide RW).row.vsR).at hv2
      have hq : (k : Int) < (n : Int) := by omega
      clear hv hv2
      go_wp2
      go_roundw
      case rel => exact ⟨k + 1, by omega, by go_num, trivial⟩
      case measure => simp [intOf]; omega
    · obtain rfl : k = K := by omega
      by_cases hkn : k < n
      · have hq : (k : Int) < (n : Int) := by omega
        obtain ⟨v, hv⟩ : ∃ v, (allOf f)[k]? = some v := ⟨_, List.getElem?_eq_getElem (by rw [unhide HNL]; exact hkn)⟩
        have hvr : v ∈ f.at s ++ R := by
          have h2 := hv
          rw [unhide HALL, List.getElem?_append_right (by rw [unhide HK]; exact Nat.le_refl _)] at h2
          exact List.mem_of_getElem? h2
        have hvs : s ≤ v.slot := by
          rcases List.mem_append.1 hvr with h2 | h2
          · have := (at_slot h2).1; omega
          · have := unhide HR v h2; omega
        obtain ⟨g, off, mo2, mc2, rfl, d0, -⟩ := ((unhide RW).row.vsR).at hv
        have nvs : ¬ v.slot < s := by omega
        have HVV := hide hv
        have HVR := hide hvr
        clear hv hvr
        have V0 : Hid (VsL low wr (some ⟨g, off, none⟩) A) := hide (by
          have := (unhide RW).vsL.take k
          rw [unhide HALL, List.take_left' (unhide HK)] at this; exact this)
        have L1 : Hid (([] : List Vt).length + k ≤ 1000000) := hide (by simp; omega)
        have hkc : k ≤ cap := by omega
        go_upto_region 10 with fail
        go_upto_region 11 with (first
          | (have gate := V0
             refine wpList_upto rfl (.tmp 56) (.tmp 57) rfl (some ⟨g, off, none⟩) n cap k rfl rfl hkc low ?_
             intro a1 ha1
             have V1 := hide (ha1 _ (unhide V0))
             clear ha1 gate V0)
          | (have gate := V1
             refine wpList_appL Try.underlying27 (by decide) Try.infoXV rfl (.tmp 52) (.tmp 58) rfl low wr.heap.size (unhide HLO) (.slice none 0 0) [] rfl (VRowL.nil _ _ _ _) a1 k cap A rfl (unhide HK) (unhide V1) (unhide L1) (Nat.le_refl _) ?_
             intro v2 w2 r2 g2
             clear gate V1)
          | fail)
        rw [List.nil_append] at r2
        have bb2 : Below wr.heap.size wr w2 := (Below.refl _ wr).grown g2 (Nat.le_refl _) (fun k hk => by cases hk)
        have e2 := Below.stay bb2 (unhide EW)
        have k0 : w2.cell? ⟨w.heap.size, 0, none⟩ = some (.int .i64 e.kind) := (cell_of_block e2).trans rfl
        have k1 : w2.cell? ⟨w.heap.size, 1, none⟩ = some (.int .i64 e.client) := (cell_of_block e2).trans rfl
        have k2 : w2.cell? ⟨w.heap.size, 2, none⟩ = some (.int .i64 e.seq) := (cell_of_block e2).trans rfl
        have k3 : w2.cell? ⟨w.heap.size, 3, none⟩ = some (.string e.text) := (cell_of_block e2).trans rfl
        have k4 : w2.cell? ⟨w.heap.size, 4, none⟩ = some (.slice mo e.ms.length mc) := (cell_of_block e2).trans rfl
        have k5 : w2.cell? ⟨w.heap.size, 5, none⟩ = some (.int .i64 e.dest) := (cell_of_block e2).trans rfl
        obtain ⟨W3, hW3⟩ : ∃ W3, w2.alloc (.cells #[.int .i64 s, .int .i64 b, .int .i64 e.kind, .int .i64 e.client, .int .i64 e.seq, .string e.text, .slice mo e.ms.length mc, .int .i64 e.dest] 55) = W3 := ⟨_, rfl⟩
        have bb3 : Below w2.heap.size w2 W3 := by rw [← hW3]; exact (Below.refl _ w2).alloc (Nat.le_refl _) _
        have x3 : W3.heap[w2.heap.size]? = some (.cells #[.int .i64 s, .int .i64 b, .int .i64 e.kind, .int .i64 e.client, .int .i64 e.seq, .string e.text, .slice mo e.ms.length mc, .int .i64 e.dest] 55 (0, 0)) := by rw [← hW3]; exact box_at _ _
        have SRC := hide (VsL.one (v := ⟨s, b, e⟩) x3 ((unhide IW).below (below_far bb2 bb3)) hl)
        have R3 := hide (r2.below bb3)
        have B3 := hide (below_far bb2 bb3)
        have S3 := hide (below_far bb2 bb3).size
        have L3 : Hid (A.length + 1 ≤ 1000000) := hide (by rw [unhide HK]; omega)
        clear r2 g2 bb2 e2 bb3 x3 L1
        subst hW3
        go_upto_region 12 with (refine wpList_appL Try.underlying27 (by decide) Try.infoXV rfl (.tmp 60) (.tmp 65) rfl low wr.heap.size (unhide HLO) _ A rfl (unhide R3) (some ⟨w2.heap.size, 0, none⟩) 1 1 [⟨s, b, e⟩] rfl rfl (unhide SRC) (unhide L3) (unhide S3) ?_
                                intro v4 w4 r4 g4)
        have bb4 : Below wr.heap.size wr w4 := (unhide B3).grown g4 (unhide S3) (fun k hk => ((unhide R3).row.tag k hk).1)
        have x4 := Below.stay bb4 (unhide XW)
        have c4 : w4.cell? ⟨x, 1, none⟩ = some (.slice (some ⟨g, off, none⟩) n cap) := (cell_of_block x4).trans rfl
        have B4 := hide bb4
        have R4 := hide r4
        have X4 := hide x4
        clear r4 g4 x4 bb4 R3 B3 S3 SRC k0 k1 k2 k3 k4 k5 L3
        have NX : Hid (v4.ownBlock ≠ some x) := hide (fun hk => by
          have h1 := ((unhide R4).row.tag x hk).1
          have h2 := heap_lt (unhide XW)
          omega)
        by_cases hvv : v.slot = s
        · have qeq : (v.slot == s) = true := by simp [hvv]
          have hat : f.at s = [v] := by
            rcases List.mem_append.1 (unhide HVR) with h2 | h2
            · unfold Vf.at at h2 ⊢
              split at h2
              · simp at h2; rw [h2]
              · simp at h2
            · have := unhide HR v h2; omega
          have hRd : R = (allOf f).drop (k + 1) := by
            have := unhide HALL
            rw [hat] at this
            rw [this, ← List.append_assoc, List.drop_left' (by rw [List.length_append, unhide HK]; rfl)]
          obtain ⟨K1, hK1⟩ : ∃ K1, k + 1 = K1 := ⟨_, rfl⟩
          have hK1i : (k : Int) + 1 = (K1 : Int) := by omega
          have hKn1 : K1 ≤ n := by omega
          rw [hK1] at hRd
          have d4 : w4.cell? ⟨g, off + k * 8, none⟩ = some (.int .i64 v.slot) := ((unhide B4).cell (blk_lt d0)).trans d0
          have HK1 := hide hK1i
          clear hat hK1 hK1i
          have LR : Hid (R.length = n - K1) := hide (by rw [hRd, List.length_drop, unhide HNL])
          have HRD := hide hRd
          have S4 := hide (unhide B4).size
          have V4 : Hid (VsL low w4 (some ⟨g, off, none⟩) (allOf f)) := hide ((unhide RW).vsL.below (unhide B4))
          have L5 : Hid ((A ++ [(⟨s, b, e⟩ : Vt)]).length + (n - K1) ≤ 1000000) := hide (by rw [List.length_append, unhide HK]; simp; omega)
          clear hRd
          go_upto_region 14 with fail
          rw [unhide HK1]
          go_wp2_with (first
            | (have gate := V4
               refine wpList_from rfl (.tmp 93) (.tmp 94) rfl (some ⟨g, off, none⟩) n cap K1 rfl rfl hKn1 hcap low ?_
               intro a5 ha5
               have V5 : Hid (VsL low w4 a5 R) := hide (by rw [unhide HRD]; exact ha5 _ (unhide HNL) (unhide V4))
               clear ha5
               refine wpList_appL Try.underlying27 (by decide) Try.infoXV rfl (.tmp 89) (.tmp 95) rfl low wr.heap.size (unhide HLO) v4 (A ++ [(⟨s, b, e⟩ : Vt)]) rfl (unhide R4) a5 (n - K1) (cap - K1) R rfl (unhide LR) (unhide V5) (unhide L5) (unhide S4) ?_
               intro v6 w6 r6 g6
               obtain ⟨o6, p6, rfl, -, -⟩ := r6.row.slice
               obtain ⟨L6, hL6⟩ : ∃ L6, ((A ++ [(⟨s, b, e⟩ : Vt)]) ++ R).length = L6 := ⟨_, rfl⟩
               rw [hL6] at r6
               rw [hL6]
               clear hL6
               have x6 := (g6.block x (heap_lt (unhide X4)) (fun h => unhide NX h.symm)).trans (unhide X4)
               have f6 : w6.frozen? ⟨x, 1, none⟩ = false := free_of_block x6
               have c6 : w6.cell? ⟨x, 1, none⟩ = some (.slice (some ⟨g, off, none⟩) n cap) := (cell_of_block x6).trans rfl
               clear c4
               have R6 := hide r6
               have G6 := hide g6
               have X6 := hide x6
               clear r6 g6 x6 gate V4)
            | fail)
          go_ret
          have FIN := xacc_fin (unhide HPUT) (unhide HLB) (unhide HS) (unhide KW) (unhide B4) (unhide R4) (unhide X6) (unhide R6) (unhide G6) (unhide HX) rfl
          exact ⟨rfl, FIN⟩
        · have qeq : (v.slot == s) = false := by simp [hvv]
          have hat : f.at s = [] := by
            cases hh : f.at s with
            | nil => rfl
            | cons u us =>
              exfalso
              have h3 := unhide HVV
              rw [unhide HALL, List.getElem?_append_right (by rw [unhide HK]; exact Nat.le_refl _), hh, unhide HK, Nat.sub_self] at h3
              simp at h3
              exact hvv (by rw [← h3]; exact (at_slot (by rw [hh]; simp : u ∈ f.at s)).1)
          have hRd : R = (allOf f).drop k := by
            have := unhide HALL
            rw [hat, List.nil_append] at this
            rw [this, List.drop_left' (unhide HK)]
          have hKn1 : k ≤ n := by omega
          have d4 : w4.cell? ⟨g, off + k * 8, none⟩ = some (.int .i64 v.slot) := ((unhide B4).cell (blk_lt d0)).trans d0
          clear hat
          have LR : Hid (R.length = n - k) := hide (by rw [hRd, List.length_drop, unhide HNL])
          have HRD := hide hRd
          have S4 := hide (unhide B4).size
          have V4 : Hid (VsL low w4 (some ⟨g, off, none⟩) (allOf f)) := hide ((unhide RW).vsL.below (unhide B4))
          have L5 : Hid ((A ++ [(⟨s, b, e⟩ : Vt)]).length + (n - k) ≤ 1000000) := hide (by rw [List.length_append, unhide HK]; simp; omega)
          clear hRd
          go_upto_region 14 with fail
          go_wp2_with (first
            | (have gate := V4
               refine wpList_from rfl (.tmp 93) (.tmp 94) rfl (some ⟨g, off, none⟩) n cap k rfl rfl hKn1 hcap low ?_
               intro a5 ha5
               have V5 : Hid (VsL low w4 a5 R) := hide (by rw [unhide HRD]; exact ha5 _ (unhide HNL) (unhide V4))
               clear ha5
               refine wpList_appL Try.underlying27 (by decide) Try.infoXV rfl (.tmp 89) (.tmp 95) rfl low wr.heap.size (unhide HLO) v4 (A ++ [(⟨s, b, e⟩ : Vt)]) rfl (unhide R4) a5 (n - k) (cap - k) R rfl (unhide LR) (unhide V5) (unhide L5) (unhide S4) ?_
               intro v6 w6 r6 g6
               obtain ⟨o6, p6, rfl, -, -⟩ := r6.row.slice
               obtain ⟨L6, hL6⟩ : ∃ L6, ((A ++ [(⟨s, b, e⟩ : Vt)]) ++ R).length = L6 := ⟨_, rfl⟩
               rw [hL6] at r6
               rw [hL6]
               clear hL6
               have x6 := (g6.block x (heap_lt (unhide X4)) (fun h => unhide NX h.symm)).trans (unhide X4)
               have f6 : w6.frozen? ⟨x, 1, none⟩ = false := free_of_block x6
               have c6 : w6.cell? ⟨x, 1, none⟩ = some (.slice (some ⟨g, off, none⟩) n cap) := (cell_of_block x6).trans rfl
               clear c4
               have R6 := hide r6
               have G6 := hide g6
               have X6 := hide x6
               clear r6 g6 x6 gate V4)
            | fail)
          go_ret
          have FIN := xacc_fin (unhide HPUT) (unhide HLB) (unhide HS) (unhide KW) (unhide B4) (unhide R4) (unhide X6) (unhide R6) (unhide G6) (unhide HX) rfl
          exact ⟨rfl, FIN⟩
      · obtain rfl : k = n := by omega
        have hq : ¬ (k : Int) < (k : Int) := by omega
        have V0 : Hid (VsL low wr ao A) := hide (by
          have := (unhide RW).vsL.take k
          rw [unhide HALL, List.take_left' (unhide HK)] at this; exact this)
        have L1 : Hid (([] : List Vt).length + k ≤ 1000000) := hide (by simp; omega)
        have hkc : k ≤ cap := by omega
        go_upto_region 10 with fail
        go_upto_region 11 with (first
          | (have gate := V0
             refine wpList_upto rfl (.tmp 56) (.tmp 57) rfl ao k cap k rfl rfl hkc low ?_
             intro a1 ha1
             have V1 := hide (ha1 _ (unhide V0))
             clear ha1 gate V0)
          | (have gate := V1
             refine wpList_appL Try.underlying27 (by decide) Try.infoXV rfl (.tmp 52) (.tmp 58) rfl low wr.heap.size (unhide HLO) (.slice none 0 0) [] rfl (VRowL.nil _ _ _ _) a1 k cap A rfl (unhide HK) (unhide V1) (unhide L1) (Nat.le_refl _) ?_
             intro v2 w2 r2 g2
             clear gate V1)
          | fail)
        rw [List.nil_append] at r2
        have bb2 : Below wr.heap.size wr w2 := (Below.refl _ wr).grown g2 (Nat.le_refl _) (fun k hk => by cases hk)
        have e2 := Below.stay bb2 (unhide EW)
        have k0 : w2.cell? ⟨w.heap.size, 0, none⟩ = some (.int .i64 e.kind) := (cell_of_block e2).trans rfl
        have k1 : w2.cell? ⟨w.heap.size, 1, none⟩ = some (.int .i64 e.client) := (cell_of_block e2).trans rfl
        have k2 : w2.cell? ⟨w.heap.size, 2, none⟩ = some (.int .i64 e.seq) := (cell_of_block e2).trans rfl
        have k3 : w2.cell? ⟨w.heap.size, 3, none⟩ = some (.string e.text) := (cell_of_block e2).trans rfl
        have k4 : w2.cell? ⟨w.heap.size, 4, none⟩ = some (.slice mo e.ms.length mc) := (cell_of_block e2).trans rfl
        have k5 : w2.cell? ⟨w.heap.size, 5, none⟩ = some (.int .i64 e.dest) := (cell_of_block e2).trans rfl
        obtain ⟨W3, hW3⟩ : ∃ W3, w2.alloc (.cells #[.int .i64 s, .int .i64 b, .int .i64 e.kind, .int .i64 e.client, .int .i64 e.seq, .string e.text, .slice mo e.ms.length mc, .int .i64 e.dest] 55) = W3 := ⟨_, rfl⟩
        have bb3 : Below w2.heap.size w2 W3 := by rw [← hW3]; exact (Below.refl _ w2).alloc (Nat.le_refl _) _
        have x3 : W3.heap[w2.heap.size]? = some (.cells #[.int .i64 s, .int .i64 b, .int .i64 e.kind, .int .i64 e.client, .int .i64 e.seq, .string e.text, .slice mo e.ms.length mc, .int .i64 e.dest] 55 (0, 0)) := by rw [← hW3]; exact box_at _ _
        have SRC := hide (VsL.one (v := ⟨s, b, e⟩) x3 ((unhide IW).below (below_far bb2 bb3)) hl)
        have R3 := hide (r2.below bb3)
        have B3 := hide (below_far bb2 bb3)
        have S3 := hide (below_far bb2 bb3).size
        have L3 : Hid (A.length + 1 ≤ 1000000) := hide (by rw [unhide HK]; omega)
        clear r2 g2 bb2 e2 bb3 x3 L1
        subst hW3
        go_upto_region 12 with (refine wpList_appL Try.underlying27 (by decide) Try.infoXV rfl (.tmp 60) (.tmp 65) rfl low wr.heap.size (unhide HLO) _ A rfl (unhide R3) (some ⟨w2.heap.size, 0, none⟩) 1 1 [⟨s, b, e⟩] rfl rfl (unhide SRC) (unhide L3) (unhide S3) ?_
                                intro v4 w4 r4 g4)
        have bb4 : Below wr.heap.size wr w4 := (unhide B3).grown g4 (unhide S3) (fun k hk => ((unhide R3).row.tag k hk).1)
        have x4 := Below.stay bb4 (unhide XW)
        have c4 : w4.cell? ⟨x, 1, none⟩ = some (.slice ao k cap) := (cell_of_block x4).trans rfl
        have B4 := hide bb4
        have R4 := hide r4
        have X4 := hide x4
        clear r4 g4 x4 bb4 R3 B3 S3 SRC k0 k1 k2 k3 k4 k5 L3
        have NX : Hid (v4.ownBlock ≠ some x) := hide (fun hk => by
          have h1 := ((unhide R4).row.tag x hk).1
          have h2 := heap_lt (unhide XW)
          omega)
        have hRd : R = (allOf f).drop k := by
          have h1 := unhide HALL
          have h2 : (allOf f).length = k := unhide HNL
          rw [h1, List.length_append, List.length_append, unhide HK] at h2
          have h3 : R = [] := List.eq_nil_of_length_eq_zero (by omega)
          rw [List.drop_of_length_le (by rw [unhide HNL]; exact Nat.le_refl _), h3]
        have hKn1 : k ≤ k := Nat.le_refl _
        have LR : Hid (R.length = k - k) := hide (by rw [hRd, List.length_drop, unhide HNL])
        have HRD := hide hRd
        have S4 := hide (unhide B4).size
        have V4 : Hid (VsL low w4 ao (allOf f)) := hide ((unhide RW).vsL.below (unhide B4))
        have L5 : Hid ((A ++ [(⟨s, b, e⟩ : Vt)]).length + (k - k) ≤ 1000000) := hide (by rw [List.length_append, unhide HK]; simp; omega)
        clear hRd
        go_upto_region 14 with fail
        go_wp2_with (first
          | (have gate := V4
             refine wpList_from rfl (.tmp 93) (.tmp 94) rfl ao k cap k rfl rfl hKn1 hcap low ?_
             intro a5 ha5
             have V5 : Hid (VsL low w4 a5 R) := hide (by rw [unhide HRD]; exact ha5 _ (unhide HNL) (unhide V4))
             clear ha5
             refine wpList_appL Try.underlying27 (by decide) Try.infoXV rfl (.tmp 89) (.tmp 95) rfl low wr.heap.size (unhide HLO) v4 (A ++ [(⟨s, b, e⟩ : Vt)]) rfl (unhide R4) a5 (k - k) (cap - k) R rfl (unhide LR) (unhide V5) (unhide L5) (unhide S4) ?_
             intro v6 w6 r6 g6
             obtain ⟨o6, p6, rfl, -, -⟩ := r6.row.slice
             obtain ⟨L6, hL6⟩ : ∃ L6, ((A ++ [(⟨s, b, e⟩ : Vt)]) ++ R).length = L6 := ⟨_, rfl⟩
             rw [hL6] at r6
             rw [hL6]
             clear hL6
             have x6 := (g6.block x (heap_lt (unhide X4)) (fun h => unhide NX h.symm)).trans (unhide X4)
             have f6 : w6.frozen? ⟨x, 1, none⟩ = false := free_of_block x6
             have c6 : w6.cell? ⟨x, 1, none⟩ = some (.slice ao k cap) := (cell_of_block x6).trans rfl
             clear c4
             have R6 := hide r6
             have G6 := hide g6
             have X6 := hide x6
             clear r6 g6 x6 gate V4)
          | fail)
        go_ret
        have FIN := xacc_fin (unhide HPUT) (unhide HLB) (unhide HS) (unhide KW) (unhide B4) (unhide R4) (unhide X6) (unhide R6) (unhide G6) (unhide HX) rfl
        exact ⟨rfl, FIN⟩
end Go.Proofs.Ytijohafalcifpaa

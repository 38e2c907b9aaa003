/- synodallaw2.GoodMsg: a contract, by cases. -/
import Derived.Test.YtojmnlbdhpledaaDoorCutsC
namespace Go.Proofs.YtojmnlbdhpledaaDoor
open Go.RowKit

set_option maxRecDepth 20000 in
set_option maxHeartbeats 4000000 in
theorem goodMsg_011 (x0 x1 x2 x3 x4 x5 x6 x7 : Int) (y : Bool) (aot aoe aoo aon : Option Addr) (nt ct ne ce no co nn cn : Nat) (es : List En) (hne : es.length = ne) (_l1 : nt ≤ ct) (l1' : ct ≤ maxLen) (l2 : ne ≤ maxLen) (l3 : no ≤ co) (l3' : co ≤ maxLen) (l4 : nn ≤ cn) (l4' : cn ≤ maxLen)
    (_u1 : aot = none → ct = 0) (u3 : aoo = none → co = 0) (u4 : aon = none → cn = 0) (w w0 : World) (h0w : Below w0.heap.size w0 w) (he : EntsAt w0 aoe es) (q1 : ¬ 64 < nt) (q2 : 9 < no) (q3 : 9 < nn) :
    Calls Tryd.prog 23 #[.agg #[.int .i64 x0, .int .i64 x1, .int .i64 x2, .int .i64 x3, .int .i64 x4, .int .i64 x5, .int .i64 x6, .int .i64 x7, .bool y, .slice aot nt ct, .slice aoe ne ce, .slice aoo no co, .slice aon nn cn]] w fun e w' => ∃ aol k cl, e = .returned (.agg #[.int .i64 x0, .int .i64 x1, .int .i64 x2, .int .i64 (1 + x3 % 15), .int .i64 x4, .int .i64 x5, .int .i64 x6, .int .i64 x7, .bool y, .slice aot (min nt 64) ct, .slice aol k cl, .slice aoo (min no 9) co, .slice aon (min nn 9) cn]) ∧ ((es.take 64).map goodE).length = k ∧ k ≤ cl ∧ cl ≤ maxLen ∧ (aol = none → cl = 0) ∧ (∃ vs, w'.ownsRow w.heap.size 24 6 (.slice aol k cl) k vs ∧ Six w0 vs ((es.take 64).map goodE)) ∧ Below w.heap.size w w' := by
  obtain ⟨ad2, rfl⟩ : ∃ a, aoo = some a := by
    cases hh : aoo with
    | none => exact absurd (u3 hh) (by omega)
    | some a => exact ⟨a, rfl⟩
  obtain ⟨ad3, rfl⟩ : ∃ a, aon = some a := by
    cases hh : aon with
    | none => exact absurd (u4 hh) (by omega)
    | some a => exact ⟨a, rfl⟩
  have l1' : ct ≤ 9223372036854775807 := l1'
  have l2 : ne ≤ 9223372036854775807 := l2
  have l3' : co ≤ 9223372036854775807 := l3'
  have l4' : cn ≤ 9223372036854775807 := l4'
  obtain ⟨i0, hi, hz0, hz1, hz2⟩ := info_parts Tryd.info_entry
  obtain ⟨W, hW⟩ : ∃ W, (w.alloc (.cells #[.int .i64 x0, .int .i64 x1, .int .i64 x2, .int .i64 x3, .int .i64 x4, .int .i64 x5, .int .i64 x6, .int .i64 x7, .bool y, .slice aot nt ct, .slice aoe ne ce, .slice (some ad2) no co, .slice (some ad3) nn cn] 41)).alloc (.cells #[.int .i64 0, .int .i64 0, .int .i64 0, .int .i64 0, .int .i64 0, .int .i64 0, .int .i64 0, .int .i64 0, .bool false, .slice none 0 0, .slice none 0 0, .slice none 0 0, .slice none 0 0] 41) = W := ⟨_, rfl⟩
  have bW : Below w.heap.size w W := by rw [← hW]; exact ((Below.refl _ w).alloc (Nat.le_refl _) _).alloc (by simp) _
  have hb : W.heap[w.heap.size]? = some (.cells #[.int .i64 x0, .int .i64 x1, .int .i64 x2, .int .i64 x3, .int .i64 x4, .int .i64 x5, .int .i64 x6, .int .i64 x7, .bool y, .slice aot nt ct, .slice aoe ne ce, .slice (some ad2) no co, .slice (some ad3) nn cn] 41 (0, 0)) := by rw [← hW]; exact (Below.heap_alloc _ _ _ (by simp)).trans (heap_alloc_new _ _)
  have hz : W.heap[w.heap.size + 1]? = some (.cells #[.int .i64 0, .int .i64 0, .int .i64 0, .int .i64 0, .int .i64 0, .int .i64 0, .int .i64 0, .int .i64 0, .bool false, .slice none 0 0, .slice none 0 0, .slice none 0 0, .slice none 0 0] 41 (0, 0)) := by
    rw [← hW]
    have h := heap_alloc_new (w.alloc (.cells #[.int .i64 x0, .int .i64 x1, .int .i64 x2, .int .i64 x3, .int .i64 x4, .int .i64 x5, .int .i64 x6, .int .i64 x7, .bool y, .slice aot nt ct, .slice aoe ne ce, .slice (some ad2) no co, .slice (some ad3) nn cn] 41)) (.cells #[.int .i64 0, .int .i64 0, .int .i64 0, .int .i64 0, .int .i64 0, .int .i64 0, .int .i64 0, .int .i64 0, .bool false, .slice none 0 0, .slice none 0 0, .slice none 0 0, .slice none 0 0] 41)
    simpa using h
  have zW : w.heap.size + 2 ≤ W.heap.size := by rw [← hW]; simp
  have c3 : W.cell? ⟨w.heap.size, 3, none⟩ = some (.int .i64 x3) := (cell_of_block hb).trans rfl
  have f3 : W.frozen? ⟨w.heap.size, 3, none⟩ = false := free_of_block hb
  have HW := hide hW
  have BW := hide bW
  have HB := hide hb
  have HZ := hide hz
  have HE := hide he
  have H0 := hide h0w
  have HN := hide hne
  clear hW bW hb hz he hne h0w
  go_enter Tryd.func23, Tryd.ntmps23
  go_wp2_with fail
  rw [unhide HW]
  clear HW
  refine (within_any x3 15 W (by omega) (by omega)).mono ?_
  rintro e W' ⟨rfl, hw'⟩
  rw [hw']
  clear hw' W'
  have hm15 : 0 ≤ x3 % 15 ∧ x3 % 15 < 15 := ⟨Int.emod_nonneg _ (by decide), Int.emod_lt_of_pos _ (by decide)⟩
  obtain ⟨m15, hm⟩ : ∃ m, x3 % 15 = m := ⟨_, rfl⟩
  rw [hm] at hm15 ⊢
  have HM := hide hm
  clear hm
  go_wp2_with fail
  obtain ⟨W1, hW1⟩ : ∃ W1, W.setCell ⟨w.heap.size, 3, none⟩ (.int .i64 (1 + m15)) = W1 := ⟨_, rfl⟩
  have k1 : Kept w.heap.size (fun k => k = w.heap.size) W W1 := by rw [← hW1]; exact (Kept.refl w.heap.size (fun k => k = w.heap.size) W).setCell (p := ⟨w.heap.size, 3, none⟩) (Nat.le_refl _) rfl _
  have hb1 : W1.heap[w.heap.size]? = some (.cells #[.int .i64 x0, .int .i64 x1, .int .i64 x2, .int .i64 (1 + m15), .int .i64 x4, .int .i64 x5, .int .i64 x6, .int .i64 x7, .bool y, .slice aot nt ct, .slice aoe ne ce, .slice (some ad2) no co, .slice (some ad3) nn cn] 41 (0, 0)) := by rw [← hW1]; exact setCell_block (unhide HB)
  have hz1 := (k1.2 _ (heap_lt (unhide HZ)) (by simp)).trans (unhide HZ)
  have bW1 := (unhide BW).trans k1.1
  rw [hW1]
  have HB1 := hide hb1
  have HZ1 := hide hz1
  have B1 := hide bW1
  have zW1 : w.heap.size + 2 ≤ W1.heap.size := Nat.le_trans zW k1.size
  clear hW1 k1 hb1 hz1 bW1 HB HZ BW c3 f3
  obtain ⟨K, hK⟩ : ∃ K, min ne 64 = K := ⟨_, rfl⟩
  have hK1 : K ≤ ne := by omega
  have hK2 : K ≤ 64 := by omega
  have HK := hide hK
  clear hK
  go_loopg [3, 4] K (fun g lv iv wr => ∃ (j : Nat) (vs : List Value) (ao' : Option Addr) (cap' : Nat), j + g = K ∧ iv = .int .i64 (j : Int) ∧ lv = .slice ao' j cap' ∧ wr.ownsRow w.heap.size 24 6 (.slice ao' j cap') j vs ∧ Six w0 vs ((es.take j).map goodE) ∧ wr.heap[w.heap.size]? = some (.cells #[.int .i64 x0, .int .i64 x1, .int .i64 x2, .int .i64 (1 + m15), .int .i64 x4, .int .i64 x5, .int .i64 x6, .int .i64 x7, .bool y, .slice aot nt ct, .slice aoe ne ce, .slice (some ad2) no co, .slice (some ad3) nn cn] 41 (0, 0)) ∧ wr.heap[w.heap.size + 1]? = some (.cells #[.int .i64 0, .int .i64 0, .int .i64 0, .int .i64 0, .int .i64 0, .int .i64 0, .int .i64 0, .int .i64 0, .bool false, .slice none 0 0, .slice none 0 0, .slice none 0 0, .slice none 0 0] 41 (0, 0)) ∧ Below w.heap.size w wr)
  case atStart => exact ⟨0, [], none, 0, by omega, rfl, rfl, World.ownsRow_nil _ _ _ _, Six.nil _, unhide HB1, unhide HZ1, unhide B1⟩
  case round =>
    obtain ⟨j, vs, ao', cap', hj, rfl, rfl, ho, h6, hbr, hzr, br⟩ := hrel
    have HJ := hide hj
    have HO := hide ho
    have H6 := hide h6
    have HBR := hide hbr
    have HZR := hide hzr
    have BR := hide br
    have c9 : wr.cell? ⟨w.heap.size, 9, none⟩ = some (.slice aot nt ct) := (cell_of_block hbr).trans rfl
    have c10 : wr.cell? ⟨w.heap.size, 10, none⟩ = some (.slice aoe ne ce) := (cell_of_block hbr).trans rfl
    have sr : w.heap.size ≤ wr.heap.size := br.size
    have hjK : j ≤ K := by omega
    clear hj ho h6 hbr hzr br HB1 HZ1 B1
    by_cases hlt : j < K
    · have h1 : j < ne := by omega
      have h2 : j < 64 := by omega
      obtain ⟨blk, off, r, cx, rfl, e0, e1, e2, e3, e4, e5, em, t1, t2, t3, t4⟩ := (unhide HE) j (by rw [unhide HN]; exact h1)
      have tk : es.take (j + 1) = es.take j ++ [es.getD j default] := take_succ es default j (by rw [unhide HN]; exact h1)
      have hcc : ∀ a u, w0.cell? a = some u → wr.cell? a = some u := fun a u h => by rw [((unhide H0).trans ((unhide BR).mono (unhide H0).size)).cell (blk_lt h)]; exact h
      generalize es.getD j default = x at *
      have d0 := hcc _ _ e0
      have d1 := hcc _ _ e1
      have d2 := hcc _ _ e2
      have d3 := hcc _ _ e3
      have d4 := hcc _ _ e4
      have d5 := hcc _ _ e5
      clear hcc e0 e1 e2 e3 e4 e5
      have S1 := hide ((unhide H6).snoc (goodE x) r cx (fun i hi => by obtain ⟨a, ea, hh⟩ := em i (by have := List.length_take (i := 9) (l := x.ms); simp only [goodE] at hi; omega); exact ⟨a, ea, by simp only [goodE] at hi ⊢; rw [take_getD _ _ _ hi]; exact hh⟩) (goodT_le _ t1) (by simp only [goodE, List.length_take]; omega) t3 t4)
      have EM : Hid ((es.take (j + 1)).map goodE = (es.take j).map goodE ++ [goodE x]) := by show _ = _; rw [tk]; simp
      have EL : Hid (min x.ms.length 9 = (goodE x).ms.length) := by show _ = _; simp only [goodE, List.length_take]; exact Nat.min_comm _ _
      obtain ⟨nm, hnm⟩ : ∃ nm, x.ms.length = nm := ⟨_, rfl⟩
      rw [hnm] at d4 t2 EL
      have G := hide (good_any x.kind x.client x.seq x.to x.text r nm cx t2 t3 t4 t1 wr)
      rw [show min nm 9 = (goodE x).ms.length from unhide EL] at G
      generalize (goodE x).ms.length = nl at *
      clear tk em hnm EL
      have ON : ∀ u ∈ [Value.int .i64 (x.kind % 5), .int .i64 x.client, .int .i64 x.seq, .string (goodT x.text), .slice r nl cx, .int .i64 (x.to % 3)], u.oneCell' = true := by
        intro u hu
        simp only [List.mem_cons, List.not_mem_nil, or_false] at hu
        rcases hu with rfl | rfl | rfl | rfl | rfl | rfl <;> rfl
      have HON := hide ON
      clear ON
      go_wp2_with fail
      refine (unhide G).mono ?_
      rintro e w2 ⟨rfl, b2⟩
      have O2 := hide (own_below (unhide HO) b2)
      have HB2 := hide ((b2.block _ (heap_lt (unhide HBR))).trans (unhide HBR))
      have HZ2 := hide ((b2.block _ (heap_lt (unhide HZR))).trans (unhide HZR))
      have B2 := hide ((unhide BR).trans (b2.mono sr))
      have s2 : w.heap.size ≤ w2.heap.size := Nat.le_trans sr b2.size
      clear b2 G HO HBR HZR BR c9 c10 d0 d1 d2 d3 d4 d5
      go_wp2_with (at_builtin; refine wpList_append_own _ rfl (.tmp 21) (.tmp 28) 37 rfl w.heap.size 24 i0 _ 6 72 Tryd.underlying37 hi hz0 hz1 hz2 rfl (by decide) _ _ _ rfl ((unhide O2).alloc _) ⟨w2.heap.size, 0, none⟩ 1 1 _ rfl rfl news_at (unhide HON) (by unfold maxLen; omega) (by omega) (by simp; omega) ?_)
      intro v3 w3 own3 grow3 _
      have p3 := (Only.refl w.heap.size [24] w2).alloc s2 (.cells #[.int .i64 (x.kind % 5), .int .i64 x.client, .int .i64 x.seq, .string (goodT x.text), .slice r nl cx, .int .i64 (x.to % 3)] 24)
      have p4 := p3.own ((unhide O2).alloc _) grow3 (by simp; omega) (Nat.le_refl _) (by simp)
      obtain ⟨ao3, cap3, rfl⟩ := row_slice own3
      have O3 := hide own3
      have HB3 := hide (p4.block (unhide HB2) (by decide))
      have HZ3 := hide (p4.block (unhide HZ2) (by decide))
      have B3 := hide ((unhide B2).trans p4.below)
      clear own3 grow3 p3 p4 O2 HB2 HZ2 B2
      go_wp2
      go_roundg (K - (j + 1))
      case measure => have := unhide HJ; omega
      case rel => exact ⟨j + 1, _, ao3, cap3, by omega, by go_num, rfl, unhide O3, by rw [unhide EM]; exact unhide S1, unhide HB3, unhide HZ3, unhide B3⟩
    · have ej : j = K := by omega
      subst ej
      have e64 : es.take 64 = es.take j := by
        have hk := unhide HK
        rcases Nat.lt_or_ge ne 64 with h | h
        · rw [List.take_of_length_le (by rw [unhide HN]; omega), List.take_of_length_le (by rw [unhide HN]; omega)]
        · rw [show j = 64 by omega]
      have hl : ((es.take 64).map goodE).length = j := by rw [List.length_map, List.length_take, unhide HN]; have := unhide HK; omega
      have E64 := hide e64
      have HL := hide hl
      have hnot : ¬ (j < ne ∧ j < 64) := by have := unhide HK; omega
      have c11 : wr.cell? ⟨w.heap.size, 11, none⟩ = some (.slice (some ad2) no co) := (cell_of_block (unhide HBR)).trans rfl
      have c12 : wr.cell? ⟨w.heap.size, 12, none⟩ = some (.slice (some ad3) nn cn) := (cell_of_block (unhide HBR)).trans rfl
      have b0 : wr.cell? ⟨w.heap.size, 0, none⟩ = some (.int .i64 x0) := (cell_of_block (unhide HBR)).trans rfl
      have b1 : wr.cell? ⟨w.heap.size, 1, none⟩ = some (.int .i64 x1) := (cell_of_block (unhide HBR)).trans rfl
      have b2 : wr.cell? ⟨w.heap.size, 2, none⟩ = some (.int .i64 x2) := (cell_of_block (unhide HBR)).trans rfl
      have b3 : wr.cell? ⟨w.heap.size, 3, none⟩ = some (.int .i64 (1 + m15)) := (cell_of_block (unhide HBR)).trans rfl
      have b4 : wr.cell? ⟨w.heap.size, 4, none⟩ = some (.int .i64 x4) := (cell_of_block (unhide HBR)).trans rfl
      have b5 : wr.cell? ⟨w.heap.size, 5, none⟩ = some (.int .i64 x5) := (cell_of_block (unhide HBR)).trans rfl
      have b6 : wr.cell? ⟨w.heap.size, 6, none⟩ = some (.int .i64 x6) := (cell_of_block (unhide HBR)).trans rfl
      have b7 : wr.cell? ⟨w.heap.size, 7, none⟩ = some (.int .i64 x7) := (cell_of_block (unhide HBR)).trans rfl
      have b8 : wr.cell? ⟨w.heap.size, 8, none⟩ = some (.bool y) := (cell_of_block (unhide HBR)).trans rfl
      have z0 : wr.cell? ⟨w.heap.size + 1, 0, none⟩ = some (.int .i64 0) := (cell_of_block (unhide HZR)).trans rfl
      have z1 : wr.cell? ⟨w.heap.size + 1, 1, none⟩ = some (.int .i64 0) := (cell_of_block (unhide HZR)).trans rfl
      have z2 : wr.cell? ⟨w.heap.size + 1, 2, none⟩ = some (.int .i64 0) := (cell_of_block (unhide HZR)).trans rfl
      have z3 : wr.cell? ⟨w.heap.size + 1, 3, none⟩ = some (.int .i64 0) := (cell_of_block (unhide HZR)).trans rfl
      have z4 : wr.cell? ⟨w.heap.size + 1, 4, none⟩ = some (.int .i64 0) := (cell_of_block (unhide HZR)).trans rfl
      have z5 : wr.cell? ⟨w.heap.size + 1, 5, none⟩ = some (.int .i64 0) := (cell_of_block (unhide HZR)).trans rfl
      have z6 : wr.cell? ⟨w.heap.size + 1, 6, none⟩ = some (.int .i64 0) := (cell_of_block (unhide HZR)).trans rfl
      have z7 : wr.cell? ⟨w.heap.size + 1, 7, none⟩ = some (.int .i64 0) := (cell_of_block (unhide HZR)).trans rfl
      have z8 : wr.cell? ⟨w.heap.size + 1, 8, none⟩ = some (.bool false) := (cell_of_block (unhide HZR)).trans rfl
      have z9 : wr.cell? ⟨w.heap.size + 1, 9, none⟩ = some (.slice none 0 0) := (cell_of_block (unhide HZR)).trans rfl
      have z10 : wr.cell? ⟨w.heap.size + 1, 10, none⟩ = some (.slice none 0 0) := (cell_of_block (unhide HZR)).trans rfl
      have z11 : wr.cell? ⟨w.heap.size + 1, 11, none⟩ = some (.slice none 0 0) := (cell_of_block (unhide HZR)).trans rfl
      have z12 : wr.cell? ⟨w.heap.size + 1, 12, none⟩ = some (.slice none 0 0) := (cell_of_block (unhide HZR)).trans rfl
      have fb : ∀ i, wr.frozen? ⟨w.heap.size, i, none⟩ = false := fun i => free_of_block (unhide HBR)
      have fz : ∀ i, wr.frozen? ⟨w.heap.size + 1, i, none⟩ = false := fun i => free_of_block (unhide HZR)
      have hcl : j ≤ cap' ∧ cap' ≤ maxLen ∧ (ao' = none → cap' = 0) := by
        rcases (unhide HO).2 with ⟨q1, q2⟩ | ⟨g, c', cur, q1, _, _, q3, q4, _⟩
        · cases q1; exact ⟨by omega, by simp, fun _ => rfl⟩
        · cases q1; exact ⟨q3, by first | exact q4 | omega, fun h => by cases h⟩
      have HCL := hide hcl
      clear hl hlt e64 hcl
      by_cases n1 : j < ne
      · have n2 : ¬ j < 64 := fun h => hnot ⟨n1, h⟩
        clear hnot
        go_wp2
        have KK := ((((Kept.refl w.heap.size (fun k => k = w.heap.size) wr).setCell (p := ⟨w.heap.size, 10, none⟩) (Nat.le_refl _) rfl (.slice ao' j cap')).setCell (p := ⟨w.heap.size, 11, none⟩) (Nat.le_refl _) rfl (.slice (some ad2) 9 co)).setCell (p := ⟨w.heap.size, 12, none⟩) (Nat.le_refl _) rfl (.slice (some ad3) 9 cn))
        have OO := (set_one (set_one (set_one ⟨Only.refl w.heap.size [41] wr, unhide HBR⟩ (Nat.le_refl _) (by simp) 10 (.slice ao' j cap')) (Nat.le_refl _) (by simp) 11 (.slice (some ad2) 9 co)) (Nat.le_refl _) (by simp) 12 (.slice (some ad3) 9 cn))
        obtain ⟨yw, hy⟩ : ∃ yw : World, yw = (((wr.setCell ⟨w.heap.size, 10, none⟩ (.slice ao' j cap')).setCell ⟨w.heap.size, 11, none⟩ (.slice (some ad2) 9 co)).setCell ⟨w.heap.size, 12, none⟩ (.slice (some ad3) 9 cn)) := ⟨_, rfl⟩
        rw [← hy] at KK OO ⊢
        have hz := (KK.2 _ (heap_lt (unhide HZR)) (by simp)).trans (unhide HZR)
        have by' := (unhide BR).trans KK.1
        have o1 := OO.1
        clear b0 b1 b2 b3 b4 b5 b6 b7 b8 z0 z1 z2 z3 z4 z5 z6 z7 z8 z9 z10 z11 z12 fb fz KK OO hy c9 c10 c11 c12
        obtain ⟨Wf, hW⟩ : ∃ Wf : World, Wf = (((((((((((((yw.setCell ⟨w.heap.size + 1, 0, none⟩ (.int .i64 x0)).setCell ⟨w.heap.size + 1, 1, none⟩ (.int .i64 x1)).setCell ⟨w.heap.size + 1, 2, none⟩ (.int .i64 x2)).setCell ⟨w.heap.size + 1, 3, none⟩ (.int .i64 (1 + m15))).setCell ⟨w.heap.size + 1, 4, none⟩ (.int .i64 x4)).setCell ⟨w.heap.size + 1, 5, none⟩ (.int .i64 x5)).setCell ⟨w.heap.size + 1, 6, none⟩ (.int .i64 x6)).setCell ⟨w.heap.size + 1, 7, none⟩ (.int .i64 x7)).setCell ⟨w.heap.size + 1, 8, none⟩ (.bool y)).setCell ⟨w.heap.size + 1, 9, none⟩ (.slice aot nt ct)).setCell ⟨w.heap.size + 1, 10, none⟩ (.slice ao' j cap')).setCell ⟨w.heap.size + 1, 11, none⟩ (.slice (some ad2) 9 co)).setCell ⟨w.heap.size + 1, 12, none⟩ (.slice (some ad3) 9 cn)) := ⟨_, rfl⟩
        rw [← hW]
        obtain ⟨d0, d1, d2, d3, d4, d5, d6, d7, d8, d9, d10, d11, d12, bWf, o2⟩ := msg_end w yw _ _ _ _ _ _ _ _ _ _ _ _ _ hz by' Wf hW
        refine bodyPost_ret (v := .agg #[.int .i64 x0, .int .i64 x1, .int .i64 x2, .int .i64 (1 + m15), .int .i64 x4, .int .i64 x5, .int .i64 x6, .int .i64 x7, .bool y, .slice aot nt ct, .slice ao' j cap', .slice (some ad2) 9 co, .slice (some ad3) 9 cn]) (by simp [results, Tryd.results23, go_sem, d0, d1, d2, d3, d4, d5, d6, d7, d8, d9, d10, d11, d12]) rfl ?_
        refine ⟨ao', j, cap', ?_, unhide HL, (unhide HCL).1, (unhide HCL).2.1, (unhide HCL).2.2, ?_, bWf⟩
        · rw [unhide HM, Nat.min_eq_left (by omega), Nat.min_eq_right (by omega), Nat.min_eq_right (by omega)]
        · rw [unhide E64]
          exact ⟨_, own_only (unhide HO) (o1.trans o2) (by decide), unhide H6⟩
      · clear hnot
        go_wp2
        have KK := ((((Kept.refl w.heap.size (fun k => k = w.heap.size) wr).setCell (p := ⟨w.heap.size, 10, none⟩) (Nat.le_refl _) rfl (.slice ao' j cap')).setCell (p := ⟨w.heap.size, 11, none⟩) (Nat.le_refl _) rfl (.slice (some ad2) 9 co)).setCell (p := ⟨w.heap.size, 12, none⟩) (Nat.le_refl _) rfl (.slice (some ad3) 9 cn))
        have OO := (set_one (set_one (set_one ⟨Only.refl w.heap.size [41] wr, unhide HBR⟩ (Nat.le_refl _) (by simp) 10 (.slice ao' j cap')) (Nat.le_refl _) (by simp) 11 (.slice (some ad2) 9 co)) (Nat.le_refl _) (by simp) 12 (.slice (some ad3) 9 cn))
        obtain ⟨yw, hy⟩ : ∃ yw : World, yw = (((wr.setCell ⟨w.heap.size, 10, none⟩ (.slice ao' j cap')).setCell ⟨w.heap.size, 11, none⟩ (.slice (some ad2) 9 co)).setCell ⟨w.heap.size, 12, none⟩ (.slice (some ad3) 9 cn)) := ⟨_, rfl⟩
        rw [← hy] at KK OO ⊢
        have hz := (KK.2 _ (heap_lt (unhide HZR)) (by simp)).trans (unhide HZR)
        have by' := (unhide BR).trans KK.1
        have o1 := OO.1
        clear b0 b1 b2 b3 b4 b5 b6 b7 b8 z0 z1 z2 z3 z4 z5 z6 z7 z8 z9 z10 z11 z12 fb fz KK OO hy c9 c10 c11 c12
        obtain ⟨Wf, hW⟩ : ∃ Wf : World, Wf = (((((((((((((yw.setCell ⟨w.heap.size + 1, 0, none⟩ (.int .i64 x0)).setCell ⟨w.heap.size + 1, 1, none⟩ (.int .i64 x1)).setCell ⟨w.heap.size + 1, 2, none⟩ (.int .i64 x2)).setCell ⟨w.heap.size + 1, 3, none⟩ (.int .i64 (1 + m15))).setCell ⟨w.heap.size + 1, 4, none⟩ (.int .i64 x4)).setCell ⟨w.heap.size + 1, 5, none⟩ (.int .i64 x5)).setCell ⟨w.heap.size + 1, 6, none⟩ (.int .i64 x6)).setCell ⟨w.heap.size + 1, 7, none⟩ (.int .i64 x7)).setCell ⟨w.heap.size + 1, 8, none⟩ (.bool y)).setCell ⟨w.heap.size + 1, 9, none⟩ (.slice aot nt ct)).setCell ⟨w.heap.size + 1, 10, none⟩ (.slice ao' j cap')).setCell ⟨w.heap.size + 1, 11, none⟩ (.slice (some ad2) 9 co)).setCell ⟨w.heap.size + 1, 12, none⟩ (.slice (some ad3) 9 cn)) := ⟨_, rfl⟩
        rw [← hW]
        obtain ⟨d0, d1, d2, d3, d4, d5, d6, d7, d8, d9, d10, d11, d12, bWf, o2⟩ := msg_end w yw _ _ _ _ _ _ _ _ _ _ _ _ _ hz by' Wf hW
        refine bodyPost_ret (v := .agg #[.int .i64 x0, .int .i64 x1, .int .i64 x2, .int .i64 (1 + m15), .int .i64 x4, .int .i64 x5, .int .i64 x6, .int .i64 x7, .bool y, .slice aot nt ct, .slice ao' j cap', .slice (some ad2) 9 co, .slice (some ad3) 9 cn]) (by simp [results, Tryd.results23, go_sem, d0, d1, d2, d3, d4, d5, d6, d7, d8, d9, d10, d11, d12]) rfl ?_
        refine ⟨ao', j, cap', ?_, unhide HL, (unhide HCL).1, (unhide HCL).2.1, (unhide HCL).2.2, ?_, bWf⟩
        · rw [unhide HM, Nat.min_eq_left (by omega), Nat.min_eq_right (by omega), Nat.min_eq_right (by omega)]
        · rw [unhide E64]
          exact ⟨_, own_only (unhide HO) (o1.trans o2) (by decide), unhide H6⟩
set_option maxRecDepth 20000 in
set_option maxHeartbeats 4000000 in
theorem goodMsg_010 (x0 x1 x2 x3 x4 x5 x6 x7 : Int) (y : Bool) (aot aoe aoo aon : Option Addr) (nt ct ne ce no co nn cn : Nat) (es : List En) (hne : es.length = ne) (_l1 : nt ≤ ct) (l1' : ct ≤ maxLen) (l2 : ne ≤ maxLen) (l3 : no ≤ co) (l3' : co ≤ maxLen) (_l4 : nn ≤ cn) (l4' : cn ≤ maxLen)
    (_u1 : aot = none → ct = 0) (u3 : aoo = none → co = 0) (_u4 : aon = none → cn = 0) (w w0 : World) (h0w : Below w0.heap.size w0 w) (he : EntsAt w0 aoe es) (q1 : ¬ 64 < nt) (q2 : 9 < no) (q3 : ¬ 9 < nn) :
    Calls Tryd.prog 23 #[.agg #[.int .i64 x0, .int .i64 x1, .int .i64 x2, .int .i64 x3, .int .i64 x4, .int .i64 x5, .int .i64 x6, .int .i64 x7, .bool y, .slice aot nt ct, .slice aoe ne ce, .slice aoo no co, .slice aon nn cn]] w fun e w' => ∃ aol k cl, e = .returned (.agg #[.int .i64 x0, .int .i64 x1, .int .i64 x2, .int .i64 (1 + x3 % 15), .int .i64 x4, .int .i64 x5, .int .i64 x6, .int .i64 x7, .bool y, .slice aot (min nt 64) ct, .slice aol k cl, .slice aoo (min no 9) co, .slice aon (min nn 9) cn]) ∧ ((es.take 64).map goodE).length = k ∧ k ≤ cl ∧ cl ≤ maxLen ∧ (aol = none → cl = 0) ∧ (∃ vs, w'.ownsRow w.heap.size 24 6 (.slice aol k cl) k vs ∧ Six w0 vs ((es.take 64).map goodE)) ∧ Below w.heap.size w w' := by
  obtain ⟨ad2, rfl⟩ : ∃ a, aoo = some a := by
    cases hh : aoo with
    | none => exact absurd (u3 hh) (by omega)
    | some a => exact ⟨a, rfl⟩
  have l1' : ct ≤ 9223372036854775807 := l1'
  have l2 : ne ≤ 9223372036854775807 := l2
  have l3' : co ≤ 9223372036854775807 := l3'
  have l4' : cn ≤ 9223372036854775807 := l4'
  obtain ⟨i0, hi, hz0, hz1, hz2⟩ := info_parts Tryd.info_entry
  obtain ⟨W, hW⟩ : ∃ W, (w.alloc (.cells #[.int .i64 x0, .int .i64 x1, .int .i64 x2, .int .i64 x3, .int .i64 x4, .int .i64 x5, .int .i64 x6, .int .i64 x7, .bool y, .slice aot nt ct, .slice aoe ne ce, .slice (some ad2) no co, .slice aon nn cn] 41)).alloc (.cells #[.int .i64 0, .int .i64 0, .int .i64 0, .int .i64 0, .int .i64 0, .int .i64 0, .int .i64 0, .int .i64 0, .bool false, .slice none 0 0, .slice none 0 0, .slice none 0 0, .slice none 0 0] 41) = W := ⟨_, rfl⟩
  have bW : Below w.heap.size w W := by rw [← hW]; exact ((Below.refl _ w).alloc (Nat.le_refl _) _).alloc (by simp) _
  have hb : W.heap[w.heap.size]? = some (.cells #[.int .i64 x0, .int .i64 x1, .int .i64 x2, .int .i64 x3, .int .i64 x4, .int .i64 x5, .int .i64 x6, .int .i64 x7, .bool y, .slice aot nt ct, .slice aoe ne ce, .slice (some ad2) no co, .slice aon nn cn] 41 (0, 0)) := by rw [← hW]; exact (Below.heap_alloc _ _ _ (by simp)).trans (heap_alloc_new _ _)
  have hz : W.heap[w.heap.size + 1]? = some (.cells #[.int .i64 0, .int .i64 0, .int .i64 0, .int .i64 0, .int .i64 0, .int .i64 0, .int .i64 0, .int .i64 0, .bool false, .slice none 0 0, .slice none 0 0, .slice none 0 0, .slice none 0 0] 41 (0, 0)) := by
    rw [← hW]
    have h := heap_alloc_new (w.alloc (.cells #[.int .i64 x0, .int .i64 x1, .int .i64 x2, .int .i64 x3, .int .i64 x4, .int .i64 x5, .int .i64 x6, .int .i64 x7, .bool y, .slice aot nt ct, .slice aoe ne ce, .slice (some ad2) no co, .slice aon nn cn] 41)) (.cells #[.int .i64 0, .int .i64 0, .int .i64 0, .int .i64 0, .int .i64 0, .int .i64 0, .int .i64 0, .int .i64 0, .bool false, .slice none 0 0, .slice none 0 0, .slice none 0 0, .slice none 0 0] 41)
    simpa using h
  have zW : w.heap.size + 2 ≤ W.heap.size := by rw [← hW]; simp
  have c3 : W.cell? ⟨w.heap.size, 3, none⟩ = some (.int .i64 x3) := (cell_of_block hb).trans rfl
  have f3 : W.frozen? ⟨w.heap.size, 3, none⟩ = false := free_of_block hb
  have HW := hide hW
  have BW := hide bW
  have HB := hide hb
  have HZ := hide hz
  have HE := hide he
  have H0 := hide h0w
  have HN := hide hne
  clear hW bW hb hz he hne h0w
  go_enter Tryd.func23, Tryd.ntmps23
  go_wp2_with fail
  rw [unhide HW]
  clear HW
  refine (within_any x3 15 W (by omega) (by omega)).mono ?_
  rintro e W' ⟨rfl, hw'⟩
  rw [hw']
  clear hw' W'
  have hm15 : 0 ≤ x3 % 15 ∧ x3 % 15 < 15 := ⟨Int.emod_nonneg _ (by decide), Int.emod_lt_of_pos _ (by decide)⟩
  obtain ⟨m15, hm⟩ : ∃ m, x3 % 15 = m := ⟨_, rfl⟩
  rw [hm] at hm15 ⊢
  have HM := hide hm
  clear hm
  go_wp2_with fail
  obtain ⟨W1, hW1⟩ : ∃ W1, W.setCell ⟨w.heap.size, 3, none⟩ (.int .i64 (1 + m15)) = W1 := ⟨_, rfl⟩
  have k1 : Kept w.heap.size (fun k => k = w.heap.size) W W1 := by rw [← hW1]; exact (Kept.refl w.heap.size (fun k => k = w.heap.size) W).setCell (p := ⟨w.heap.size, 3, none⟩) (Nat.le_refl _) rfl _
  have hb1 : W1.heap[w.heap.size]? = some (.cells #[.int .i64 x0, .int .i64 x1, .int .i64 x2, .int .i64 (1 + m15), .int .i64 x4, .int .i64 x5, .int .i64 x6, .int .i64 x7, .bool y, .slice aot nt ct, .slice aoe ne ce, .slice (some ad2) no co, .slice aon nn cn] 41 (0, 0)) := by rw [← hW1]; exact setCell_block (unhide HB)
  have hz1 := (k1.2 _ (heap_lt (unhide HZ)) (by simp)).trans (unhide HZ)
  have bW1 := (unhide BW).trans k1.1
  rw [hW1]
  have HB1 := hide hb1
  have HZ1 := hide hz1
  have B1 := hide bW1
  have zW1 : w.heap.size + 2 ≤ W1.heap.size := Nat.le_trans zW k1.size
  clear hW1 k1 hb1 hz1 bW1 HB HZ BW c3 f3
  obtain ⟨K, hK⟩ : ∃ K, min ne 64 = K := ⟨_, rfl⟩
  have hK1 : K ≤ ne := by omega
  have hK2 : K ≤ 64 := by omega
  have HK := hide hK
  clear hK
  go_loopg [3, 4] K (fun g lv iv wr => ∃ (j : Nat) (vs : List Value) (ao' : Option Addr) (cap' : Nat), j + g = K ∧ iv = .int .i64 (j : Int) ∧ lv = .slice ao' j cap' ∧ wr.ownsRow w.heap.size 24 6 (.slice ao' j cap') j vs ∧ Six w0 vs ((es.take j).map goodE) ∧ wr.heap[w.heap.size]? = some (.cells #[.int .i64 x0, .int .i64 x1, .int .i64 x2, .int .i64 (1 + m15), .int .i64 x4, .int .i64 x5, .int .i64 x6, .int .i64 x7, .bool y, .slice aot nt ct, .slice aoe ne ce, .slice (some ad2) no co, .slice aon nn cn] 41 (0, 0)) ∧ wr.heap[w.heap.size + 1]? = some (.cells #[.int .i64 0, .int .i64 0, .int .i64 0, .int .i64 0, .int .i64 0, .int .i64 0, .int .i64 0, .int .i64 0, .bool false, .slice none 0 0, .slice none 0 0, .slice none 0 0, .slice none 0 0] 41 (0, 0)) ∧ Below w.heap.size w wr)
  case atStart => exact ⟨0, [], none, 0, by omega, rfl, rfl, World.ownsRow_nil _ _ _ _, Six.nil _, unhide HB1, unhide HZ1, unhide B1⟩
  case round =>
    obtain ⟨j, vs, ao', cap', hj, rfl, rfl, ho, h6, hbr, hzr, br⟩ := hrel
    have HJ := hide hj
    have HO := hide ho
    have H6 := hide h6
    have HBR := hide hbr
    have HZR := hide hzr
    have BR := hide br
    have c9 : wr.cell? ⟨w.heap.size, 9, none⟩ = some (.slice aot nt ct) := (cell_of_block hbr).trans rfl
    have c10 : wr.cell? ⟨w.heap.size, 10, none⟩ = some (.slice aoe ne ce) := (cell_of_block hbr).trans rfl
    have sr : w.heap.size ≤ wr.heap.size := br.size
    have hjK : j ≤ K := by omega
    clear hj ho h6 hbr hzr br HB1 HZ1 B1
    by_cases hlt : j < K
    · have h1 : j < ne := by omega
      have h2 : j < 64 := by omega
      obtain ⟨blk, off, r, cx, rfl, e0, e1, e2, e3, e4, e5, em, t1, t2, t3, t4⟩ := (unhide HE) j (by rw [unhide HN]; exact h1)
      have tk : es.take (j + 1) = es.take j ++ [es.getD j default] := take_succ es default j (by rw [unhide HN]; exact h1)
      have hcc : ∀ a u, w0.cell? a = some u → wr.cell? a = some u := fun a u h => by rw [((unhide H0).trans ((unhide BR).mono (unhide H0).size)).cell (blk_lt h)]; exact h
      generalize es.getD j default = x at *
      have d0 := hcc _ _ e0
      have d1 := hcc _ _ e1
      have d2 := hcc _ _ e2
      have d3 := hcc _ _ e3
      have d4 := hcc _ _ e4
      have d5 := hcc _ _ e5
      clear hcc e0 e1 e2 e3 e4 e5
      have S1 := hide ((unhide H6).snoc (goodE x) r cx (fun i hi => by obtain ⟨a, ea, hh⟩ := em i (by have := List.length_take (i := 9) (l := x.ms); simp only [goodE] at hi; omega); exact ⟨a, ea, by simp only [goodE] at hi ⊢; rw [take_getD _ _ _ hi]; exact hh⟩) (goodT_le _ t1) (by simp only [goodE, List.length_take]; omega) t3 t4)
      have EM : Hid ((es.take (j + 1)).map goodE = (es.take j).map goodE ++ [goodE x]) := by show _ = _; rw [tk]; simp
      have EL : Hid (min x.ms.length 9 = (goodE x).ms.length) := by show _ = _; simp only [goodE, List.length_take]; exact Nat.min_comm _ _
      obtain ⟨nm, hnm⟩ : ∃ nm, x.ms.length = nm := ⟨_, rfl⟩
      rw [hnm] at d4 t2 EL
      have G := hide (good_any x.kind x.client x.seq x.to x.text r nm cx t2 t3 t4 t1 wr)
      rw [show min nm 9 = (goodE x).ms.length from unhide EL] at G
      generalize (goodE x).ms.length = nl at *
      clear tk em hnm EL
      have ON : ∀ u ∈ [Value.int .i64 (x.kind % 5), .int .i64 x.client, .int .i64 x.seq, .string (goodT x.text), .slice r nl cx, .int .i64 (x.to % 3)], u.oneCell' = true := by
        intro u hu
        simp only [List.mem_cons, List.not_mem_nil, or_false] at hu
        rcases hu with rfl | rfl | rfl | rfl | rfl | rfl <;> rfl
      have HON := hide ON
      clear ON
      go_wp2_with fail
      refine (unhide G).mono ?_
      rintro e w2 ⟨rfl, b2⟩
      have O2 := hide (own_below (unhide HO) b2)
      have HB2 := hide ((b2.block _ (heap_lt (unhide HBR))).trans (unhide HBR))
      have HZ2 := hide ((b2.block _ (heap_lt (unhide HZR))).trans (unhide HZR))
      have B2 := hide ((unhide BR).trans (b2.mono sr))
      have s2 : w.heap.size ≤ w2.heap.size := Nat.le_trans sr b2.size
      clear b2 G HO HBR HZR BR c9 c10 d0 d1 d2 d3 d4 d5
      go_wp2_with (at_builtin; refine wpList_append_own _ rfl (.tmp 21) (.tmp 28) 37 rfl w.heap.size 24 i0 _ 6 72 Tryd.underlying37 hi hz0 hz1 hz2 rfl (by decide) _ _ _ rfl ((unhide O2).alloc _) ⟨w2.heap.size, 0, none⟩ 1 1 _ rfl rfl news_at (unhide HON) (by unfold maxLen; omega) (by omega) (by simp; omega) ?_)
      intro v3 w3 own3 grow3 _
      have p3 := (Only.refl w.heap.size [24] w2).alloc s2 (.cells #[.int .i64 (x.kind % 5), .int .i64 x.client, .int .i64 x.seq, .string (goodT x.text), .slice r nl cx, .int .i64 (x.to % 3)] 24)
      have p4 := p3.own ((unhide O2).alloc _) grow3 (by simp; omega) (Nat.le_refl _) (by simp)
      obtain ⟨ao3, cap3, rfl⟩ := row_slice own3
      have O3 := hide own3
      have HB3 := hide (p4.block (unhide HB2) (by decide))
      have HZ3 := hide (p4.block (unhide HZ2) (by decide))
      have B3 := hide ((unhide B2).trans p4.below)
      clear own3 grow3 p3 p4 O2 HB2 HZ2 B2
      go_wp2
      go_roundg (K - (j + 1))
      case measure => have := unhide HJ; omega
      case rel => exact ⟨j + 1, _, ao3, cap3, by omega, by go_num, rfl, unhide O3, by rw [unhide EM]; exact unhide S1, unhide HB3, unhide HZ3, unhide B3⟩
    · have ej : j = K := by omega
      subst ej
      have e64 : es.take 64 = es.take j := by
        have hk := unhide HK
        rcases Nat.lt_or_ge ne 64 with h | h
        · rw [List.take_of_length_le (by rw [unhide HN]; omega), List.take_of_length_le (by rw [unhide HN]; omega)]
        · rw [show j = 64 by omega]
      have hl : ((es.take 64).map goodE).length = j := by rw [List.length_map, List.length_take, unhide HN]; have := unhide HK; omega
      have E64 := hide e64
      have HL := hide hl
      have hnot : ¬ (j < ne ∧ j < 64) := by have := unhide HK; omega
      have c11 : wr.cell? ⟨w.heap.size, 11, none⟩ = some (.slice (some ad2) no co) := (cell_of_block (unhide HBR)).trans rfl
      have c12 : wr.cell? ⟨w.heap.size, 12, none⟩ = some (.slice aon nn cn) := (cell_of_block (unhide HBR)).trans rfl
      have b0 : wr.cell? ⟨w.heap.size, 0, none⟩ = some (.int .i64 x0) := (cell_of_block (unhide HBR)).trans rfl
      have b1 : wr.cell? ⟨w.heap.size, 1, none⟩ = some (.int .i64 x1) := (cell_of_block (unhide HBR)).trans rfl
      have b2 : wr.cell? ⟨w.heap.size, 2, none⟩ = some (.int .i64 x2) := (cell_of_block (unhide HBR)).trans rfl
      have b3 : wr.cell? ⟨w.heap.size, 3, none⟩ = some (.int .i64 (1 + m15)) := (cell_of_block (unhide HBR)).trans rfl
      have b4 : wr.cell? ⟨w.heap.size, 4, none⟩ = some (.int .i64 x4) := (cell_of_block (unhide HBR)).trans rfl
      have b5 : wr.cell? ⟨w.heap.size, 5, none⟩ = some (.int .i64 x5) := (cell_of_block (unhide HBR)).trans rfl
      have b6 : wr.cell? ⟨w.heap.size, 6, none⟩ = some (.int .i64 x6) := (cell_of_block (unhide HBR)).trans rfl
      have b7 : wr.cell? ⟨w.heap.size, 7, none⟩ = some (.int .i64 x7) := (cell_of_block (unhide HBR)).trans rfl
      have b8 : wr.cell? ⟨w.heap.size, 8, none⟩ = some (.bool y) := (cell_of_block (unhide HBR)).trans rfl
      have z0 : wr.cell? ⟨w.heap.size + 1, 0, none⟩ = some (.int .i64 0) := (cell_of_block (unhide HZR)).trans rfl
      have z1 : wr.cell? ⟨w.heap.size + 1, 1, none⟩ = some (.int .i64 0) := (cell_of_block (unhide HZR)).trans rfl
      have z2 : wr.cell? ⟨w.heap.size + 1, 2, none⟩ = some (.int .i64 0) := (cell_of_block (unhide HZR)).trans rfl
      have z3 : wr.cell? ⟨w.heap.size + 1, 3, none⟩ = some (.int .i64 0) := (cell_of_block (unhide HZR)).trans rfl
      have z4 : wr.cell? ⟨w.heap.size + 1, 4, none⟩ = some (.int .i64 0) := (cell_of_block (unhide HZR)).trans rfl
      have z5 : wr.cell? ⟨w.heap.size + 1, 5, none⟩ = some (.int .i64 0) := (cell_of_block (unhide HZR)).trans rfl
      have z6 : wr.cell? ⟨w.heap.size + 1, 6, none⟩ = some (.int .i64 0) := (cell_of_block (unhide HZR)).trans rfl
      have z7 : wr.cell? ⟨w.heap.size + 1, 7, none⟩ = some (.int .i64 0) := (cell_of_block (unhide HZR)).trans rfl
      have z8 : wr.cell? ⟨w.heap.size + 1, 8, none⟩ = some (.bool false) := (cell_of_block (unhide HZR)).trans rfl
      have z9 : wr.cell? ⟨w.heap.size + 1, 9, none⟩ = some (.slice none 0 0) := (cell_of_block (unhide HZR)).trans rfl
      have z10 : wr.cell? ⟨w.heap.size + 1, 10, none⟩ = some (.slice none 0 0) := (cell_of_block (unhide HZR)).trans rfl
      have z11 : wr.cell? ⟨w.heap.size + 1, 11, none⟩ = some (.slice none 0 0) := (cell_of_block (unhide HZR)).trans rfl
      have z12 : wr.cell? ⟨w.heap.size + 1, 12, none⟩ = some (.slice none 0 0) := (cell_of_block (unhide HZR)).trans rfl
      have fb : ∀ i, wr.frozen? ⟨w.heap.size, i, none⟩ = false := fun i => free_of_block (unhide HBR)
      have fz : ∀ i, wr.frozen? ⟨w.heap.size + 1, i, none⟩ = false := fun i => free_of_block (unhide HZR)
      have hcl : j ≤ cap' ∧ cap' ≤ maxLen ∧ (ao' = none → cap' = 0) := by
        rcases (unhide HO).2 with ⟨q1, q2⟩ | ⟨g, c', cur, q1, _, _, q3, q4, _⟩
        · cases q1; exact ⟨by omega, by simp, fun _ => rfl⟩
        · cases q1; exact ⟨q3, by first | exact q4 | omega, fun h => by cases h⟩
      have HCL := hide hcl
      clear hl hlt e64 hcl
      by_cases n1 : j < ne
      · have n2 : ¬ j < 64 := fun h => hnot ⟨n1, h⟩
        clear hnot
        go_wp2
        have KK := (((Kept.refl w.heap.size (fun k => k = w.heap.size) wr).setCell (p := ⟨w.heap.size, 10, none⟩) (Nat.le_refl _) rfl (.slice ao' j cap')).setCell (p := ⟨w.heap.size, 11, none⟩) (Nat.le_refl _) rfl (.slice (some ad2) 9 co))
        have OO := (set_one (set_one ⟨Only.refl w.heap.size [41] wr, unhide HBR⟩ (Nat.le_refl _) (by simp) 10 (.slice ao' j cap')) (Nat.le_refl _) (by simp) 11 (.slice (some ad2) 9 co))
        obtain ⟨yw, hy⟩ : ∃ yw : World, yw = ((wr.setCell ⟨w.heap.size, 10, none⟩ (.slice ao' j cap')).setCell ⟨w.heap.size, 11, none⟩ (.slice (some ad2) 9 co)) := ⟨_, rfl⟩
        rw [← hy] at KK OO ⊢
        have hz := (KK.2 _ (heap_lt (unhide HZR)) (by simp)).trans (unhide HZR)
        have by' := (unhide BR).trans KK.1
        have o1 := OO.1
        clear b0 b1 b2 b3 b4 b5 b6 b7 b8 z0 z1 z2 z3 z4 z5 z6 z7 z8 z9 z10 z11 z12 fb fz KK OO hy c9 c10 c11 c12
        obtain ⟨Wf, hW⟩ : ∃ Wf : World, Wf = (((((((((((((yw.setCell ⟨w.heap.size + 1, 0, none⟩ (.int .i64 x0)).setCell ⟨w.heap.size + 1, 1, none⟩ (.int .i64 x1)).setCell ⟨w.heap.size + 1, 2, none⟩ (.int .i64 x2)).setCell ⟨w.heap.size + 1, 3, none⟩ (.int .i64 (1 + m15))).setCell ⟨w.heap.size + 1, 4, none⟩ (.int .i64 x4)).setCell ⟨w.heap.size + 1, 5, none⟩ (.int .i64 x5)).setCell ⟨w.heap.size + 1, 6, none⟩ (.int .i64 x6)).setCell ⟨w.heap.size + 1, 7, none⟩ (.int .i64 x7)).setCell ⟨w.heap.size + 1, 8, none⟩ (.bool y)).setCell ⟨w.heap.size + 1, 9, none⟩ (.slice aot nt ct)).setCell ⟨w.heap.size + 1, 10, none⟩ (.slice ao' j cap')).setCell ⟨w.heap.size + 1, 11, none⟩ (.slice (some ad2) 9 co)).setCell ⟨w.heap.size + 1, 12, none⟩ (.slice aon nn cn)) := ⟨_, rfl⟩
        rw [← hW]
        obtain ⟨d0, d1, d2, d3, d4, d5, d6, d7, d8, d9, d10, d11, d12, bWf, o2⟩ := msg_end w yw _ _ _ _ _ _ _ _ _ _ _ _ _ hz by' Wf hW
        refine bodyPost_ret (v := .agg #[.int .i64 x0, .int .i64 x1, .int .i64 x2, .int .i64 (1 + m15), .int .i64 x4, .int .i64 x5, .int .i64 x6, .int .i64 x7, .bool y, .slice aot nt ct, .slice ao' j cap', .slice (some ad2) 9 co, .slice aon nn cn]) (by simp [results, Tryd.results23, go_sem, d0, d1, d2, d3, d4, d5, d6, d7, d8, d9, d10, d11, d12]) rfl ?_
        refine ⟨ao', j, cap', ?_, unhide HL, (unhide HCL).1, (unhide HCL).2.1, (unhide HCL).2.2, ?_, bWf⟩
        · rw [unhide HM, Nat.min_eq_left (by omega), Nat.min_eq_right (by omega), Nat.min_eq_left (by omega)]
        · rw [unhide E64]
          exact ⟨_, own_only (unhide HO) (o1.trans o2) (by decide), unhide H6⟩
      · clear hnot
        go_wp2
        have KK := (((Kept.refl w.heap.size (fun k => k = w.heap.size) wr).setCell (p := ⟨w.heap.size, 10, none⟩) (Nat.le_refl _) rfl (.slice ao' j cap')).setCell (p := ⟨w.heap.size, 11, none⟩) (Nat.le_refl _) rfl (.slice (some ad2) 9 co))
        have OO := (set_one (set_one ⟨Only.refl w.heap.size [41] wr, unhide HBR⟩ (Nat.le_refl _) (by simp) 10 (.slice ao' j cap')) (Nat.le_refl _) (by simp) 11 (.slice (some ad2) 9 co))
        obtain ⟨yw, hy⟩ : ∃ yw : World, yw = ((wr.setCell ⟨w.heap.size, 10, none⟩ (.slice ao' j cap')).setCell ⟨w.heap.size, 11, none⟩ (.slice (some ad2) 9 co)) := ⟨_, rfl⟩
        rw [← hy] at KK OO ⊢
        have hz := (KK.2 _ (heap_lt (unhide HZR)) (by simp)).trans (unhide HZR)
        have by' := (unhide BR).trans KK.1
        have o1 := OO.1
        clear b0 b1 b2 b3 b4 b5 b6 b7 b8 z0 z1 z2 z3 z4 z5 z6 z7 z8 z9 z10 z11 z12 fb fz KK OO hy c9 c10 c11 c12
        obtain ⟨Wf, hW⟩ : ∃ Wf : World, Wf = (((((((((((((yw.setCell ⟨w.heap.size + 1, 0, none⟩ (.int .i64 x0)).setCell ⟨w.heap.size + 1, 1, none⟩ (.int .i64 x1)).setCell ⟨w.heap.size + 1, 2, none⟩ (.int .i64 x2)).setCell ⟨w.heap.size + 1, 3, none⟩ (.int .i64 (1 + m15))).setCell ⟨w.heap.size + 1, 4, none⟩ (.int .i64 x4)).setCell ⟨w.heap.size + 1, 5, none⟩ (.int .i64 x5)).setCell ⟨w.heap.size + 1, 6, none⟩ (.int .i64 x6)).setCell ⟨w.heap.size + 1, 7, none⟩ (.int .i64 x7)).setCell ⟨w.heap.size + 1, 8, none⟩ (.bool y)).setCell ⟨w.heap.size + 1, 9, none⟩ (.slice aot nt ct)).setCell ⟨w.heap.size + 1, 10, none⟩ (.slice ao' j cap')).setCell ⟨w.heap.size + 1, 11, none⟩ (.slice (some ad2) 9 co)).setCell ⟨w.heap.size + 1, 12, none⟩ (.slice aon nn cn)) := ⟨_, rfl⟩
        rw [← hW]
        obtain ⟨d0, d1, d2, d3, d4, d5, d6, d7, d8, d9, d10, d11, d12, bWf, o2⟩ := msg_end w yw _ _ _ _ _ _ _ _ _ _ _ _ _ hz by' Wf hW
        refine bodyPost_ret (v := .agg #[.int .i64 x0, .int .i64 x1, .int .i64 x2, .int .i64 (1 + m15), .int .i64 x4, .int .i64 x5, .int .i64 x6, .int .i64 x7, .bool y, .slice aot nt ct, .slice ao' j cap', .slice (some ad2) 9 co, .slice aon nn cn]) (by simp [results, Tryd.results23, go_sem, d0, d1, d2, d3, d4, d5, d6, d7, d8, d9, d10, d11, d12]) rfl ?_
        refine ⟨ao', j, cap', ?_, unhide HL, (unhide HCL).1, (unhide HCL).2.1, (unhide HCL).2.2, ?_, bWf⟩
        · rw [unhide HM, Nat.min_eq_left (by omega), Nat.min_eq_right (by omega), Nat.min_eq_left (by omega)]
        · rw [unhide E64]
          exact ⟨_, own_only (unhide HO) (o1.trans o2) (by decide), unhide H6⟩
set_option maxRecDepth 20000 in
set_option maxHeartbeats 4000000 in
theorem goodMsg_001 (x0 x1 x2 x3 x4 x5 x6 x7 : Int) (y : Bool) (aot aoe aoo aon : Option Addr) (nt ct ne ce no co nn cn : Nat) (es : List En) (hne : es.length = ne) (_l1 : nt ≤ ct) (l1' : ct ≤ maxLen) (l2 : ne ≤ maxLen) (_l3 : no ≤ co) (l3' : co ≤ maxLen) (l4 : nn ≤ cn) (l4' : cn ≤ maxLen)
    (_u1 : aot = none → ct = 0) (_u3 : aoo = none → co = 0) (u4 : aon = none → cn = 0) (w w0 : World) (h0w : Below w0.heap.size w0 w) (he : EntsAt w0 aoe es) (q1 : ¬ 64 < nt) (q2 : ¬ 9 < no) (q3 : 9 < nn) :
    Calls Tryd.prog 23 #[.agg #[.int .i64 x0, .int .i64 x1, .int .i64 x2, .int .i64 x3, .int .i64 x4, .int .i64 x5, .int .i64 x6, .int .i64 x7, .bool y, .slice aot nt ct, .slice aoe ne ce, .slice aoo no co, .slice aon nn cn]] w fun e w' => ∃ aol k cl, e = .returned (.agg #[.int .i64 x0, .int .i64 x1, .int .i64 x2, .int .i64 (1 + x3 % 15), .int .i64 x4, .int .i64 x5, .int .i64 x6, .int .i64 x7, .bool y, .slice aot (min nt 64) ct, .slice aol k cl, .slice aoo (min no 9) co, .slice aon (min nn 9) cn]) ∧ ((es.take 64).map goodE).length = k ∧ k ≤ cl ∧ cl ≤ maxLen ∧ (aol = none → cl = 0) ∧ (∃ vs, w'.ownsRow w.heap.size 24 6 (.slice aol k cl) k vs ∧ Six w0 vs ((es.take 64).map goodE)) ∧ Below w.heap.size w w' := by
  obtain ⟨ad3, rfl⟩ : ∃ a, aon = some a := by
    cases hh : aon with
    | none => exact absurd (u4 hh) (by omega)
    | some a => exact ⟨a, rfl⟩
  have l1' : ct ≤ 9223372036854775807 := l1'
  have l2 : ne ≤ 9223372036854775807 := l2
  have l3' : co ≤ 9223372036854775807 := l3'
  have l4' : cn ≤ 9223372036854775807 := l4'
  obtain ⟨i0, hi, hz0, hz1, hz2⟩ := info_parts Tryd.info_entry
  obtain ⟨W, hW⟩ : ∃ W, (w.alloc (.cells #[.int .i64 x0, .int .i64 x1, .int .i64 x2, .int .i64 x3, .int .i64 x4, .int .i64 x5, .int .i64 x6, .int .i64 x7, .bool y, .slice aot nt ct, .slice aoe ne ce, .slice aoo no co, .slice (some ad3) nn cn] 41)).alloc (.cells #[.int .i64 0, .int .i64 0, .int .i64 0, .int .i64 0, .int .i64 0, .int .i64 0, .int .i64 0, .int .i64 0, .bool false, .slice none 0 0, .slice none 0 0, .slice none 0 0, .slice none 0 0] 41) = W := ⟨_, rfl⟩
  have bW : Below w.heap.size w W := by rw [← hW]; exact ((Below.refl _ w).alloc (Nat.le_refl _) _).alloc (by simp) _
  have hb : W.heap[w.heap.size]? = some (.cells #[.int .i64 x0, .int .i64 x1, .int .i64 x2, .int .i64 x3, .int .i64 x4, .int .i64 x5, .int .i64 x6, .int .i64 x7, .bool y, .slice aot nt ct, .slice aoe ne ce, .slice aoo no co, .slice (some ad3) nn cn] 41 (0, 0)) := by rw [← hW]; exact (Below.heap_alloc _ _ _ (by simp)).trans (heap_alloc_new _ _)
  have hz : W.heap[w.heap.size + 1]? = some (.cells #[.int .i64 0, .int .i64 0, .int .i64 0, .int .i64 0, .int .i64 0, .int .i64 0, .int .i64 0, .int .i64 0, .bool false, .slice none 0 0, .slice none 0 0, .slice none 0 0, .slice none 0 0] 41 (0, 0)) := by
    rw [← hW]
    have h := heap_alloc_new (w.alloc (.cells #[.int .i64 x0, .int .i64 x1, .int .i64 x2, .int .i64 x3, .int .i64 x4, .int .i64 x5, .int .i64 x6, .int .i64 x7, .bool y, .slice aot nt ct, .slice aoe ne ce, .slice aoo no co, .slice (some ad3) nn cn] 41)) (.cells #[.int .i64 0, .int .i64 0, .int .i64 0, .int .i64 0, .int .i64 0, .int .i64 0, .int .i64 0, .int .i64 0, .bool false, .slice none 0 0, .slice none 0 0, .slice none 0 0, .slice none 0 0] 41)
    simpa using h
  have zW : w.heap.size + 2 ≤ W.heap.size := by rw [← hW]; simp
  have c3 : W.cell? ⟨w.heap.size, 3, none⟩ = some (.int .i64 x3) := (cell_of_block hb).trans rfl
  have f3 : W.frozen? ⟨w.heap.size, 3, none⟩ = false := free_of_block hb
  have HW := hide hW
  have BW := hide bW
  have HB := hide hb
  have HZ := hide hz
  have HE := hide he
  have H0 := hide h0w
  have HN := hide hne
  clear hW bW hb hz he hne h0w
  go_enter Tryd.func23, Tryd.ntmps23
  go_wp2_with fail
  rw [unhide HW]
  clear HW
  refine (within_any x3 15 W (by omega) (by omega)).mono ?_
  rintro e W' ⟨rfl, hw'⟩
  rw [hw']
  clear hw' W'
  have hm15 : 0 ≤ x3 % 15 ∧ x3 % 15 < 15 := ⟨Int.emod_nonneg _ (by decide), Int.emod_lt_of_pos _ (by decide)⟩
  obtain ⟨m15, hm⟩ : ∃ m, x3 % 15 = m := ⟨_, rfl⟩
  rw [hm] at hm15 ⊢
  have HM := hide hm
  clear hm
  go_wp2_with fail
  obtain ⟨W1, hW1⟩ : ∃ W1, W.setCell ⟨w.heap.size, 3, none⟩ (.int .i64 (1 + m15)) = W1 := ⟨_, rfl⟩
  have k1 : Kept w.heap.size (fun k => k = w.heap.size) W W1 := by rw [← hW1]; exact (Kept.refl w.heap.size (fun k => k = w.heap.size) W).setCell (p := ⟨w.heap.size, 3, none⟩) (Nat.le_refl _) rfl _
  have hb1 : W1.heap[w.heap.size]? = some (.cells #[.int .i64 x0, .int .i64 x1, .int .i64 x2, .int .i64 (1 + m15), .int .i64 x4, .int .i64 x5, .int .i64 x6, .int .i64 x7, .bool y, .slice aot nt ct, .slice aoe ne ce, .slice aoo no co, .slice (some ad3) nn cn] 41 (0, 0)) := by rw [← hW1]; exact setCell_block (unhide HB)
  have hz1 := (k1.2 _ (heap_lt (unhide HZ)) (by simp)).trans (unhide HZ)
  have bW1 := (unhide BW).trans k1.1
  rw [hW1]
  have HB1 := hide hb1
  have HZ1 := hide hz1
  have B1 := hide bW1
  have zW1 : w.heap.size + 2 ≤ W1.heap.size := Nat.le_trans zW k1.size
  clear hW1 k1 hb1 hz1 bW1 HB HZ BW c3 f3
  obtain ⟨K, hK⟩ : ∃ K, min ne 64 = K := ⟨_, rfl⟩
  have hK1 : K ≤ ne := by omega
  have hK2 : K ≤ 64 := by omega
  have HK := hide hK
  clear hK
  go_loopg [3, 4] K (fun g lv iv wr => ∃ (j : Nat) (vs : List Value) (ao' : Option Addr) (cap' : Nat), j + g = K ∧ iv = .int .i64 (j : Int) ∧ lv = .slice ao' j cap' ∧ wr.ownsRow w.heap.size 24 6 (.slice ao' j cap') j vs ∧ Six w0 vs ((es.take j).map goodE) ∧ wr.heap[w.heap.size]? = some (.cells #[.int .i64 x0, .int .i64 x1, .int .i64 x2, .int .i64 (1 + m15), .int .i64 x4, .int .i64 x5, .int .i64 x6, .int .i64 x7, .bool y, .slice aot nt ct, .slice aoe ne ce, .slice aoo no co, .slice (some ad3) nn cn] 41 (0, 0)) ∧ wr.heap[w.heap.size + 1]? = some (.cells #[.int .i64 0, .int .i64 0, .int .i64 0, .int .i64 0, .int .i64 0, .int .i64 0, .int .i64 0, .int .i64 0, .bool false, .slice none 0 0, .slice none 0 0, .slice none 0 0, .slice none 0 0] 41 (0, 0)) ∧ Below w.heap.size w wr)
  case atStart => exact ⟨0, [], none, 0, by omega, rfl, rfl, World.ownsRow_nil _ _ _ _, Six.nil _, unhide HB1, unhide HZ1, unhide B1⟩
  case round =>
    obtain ⟨j, vs, ao', cap', hj, rfl, rfl, ho, h6, hbr, hzr, br⟩ := hrel
    have HJ := hide hj
    have HO := hide ho
    have H6 := hide h6
    have HBR := hide hbr
    have HZR := hide hzr
    have BR := hide br
    have c9 : wr.cell? ⟨w.heap.size, 9, none⟩ = some (.slice aot nt ct) := (cell_of_block hbr).trans rfl
    have c10 : wr.cell? ⟨w.heap.size, 10, none⟩ = some (.slice aoe ne ce) := (cell_of_block hbr).trans rfl
    have sr : w.heap.size ≤ wr.heap.size := br.size
    have hjK : j ≤ K := by omega
    clear hj ho h6 hbr hzr br HB1 HZ1 B1
    by_cases hlt : j < K
    · have h1 : j < ne := by omega
      have h2 : j < 64 := by omega
      obtain ⟨blk, off, r, cx, rfl, e0, e1, e2, e3, e4, e5, em, t1, t2, t3, t4⟩ := (unhide HE) j (by rw [unhide HN]; exact h1)
      have tk : es.take (j + 1) = es.take j ++ [es.getD j default] := take_succ es default j (by rw [unhide HN]; exact h1)
      have hcc : ∀ a u, w0.cell? a = some u → wr.cell? a = some u := fun a u h => by rw [((unhide H0).trans ((unhide BR).mono (unhide H0).size)).cell (blk_lt h)]; exact h
      generalize es.getD j default = x at *
      have d0 := hcc _ _ e0
      have d1 := hcc _ _ e1
      have d2 := hcc _ _ e2
      have d3 := hcc _ _ e3
      have d4 := hcc _ _ e4
      have d5 := hcc _ _ e5
      clear hcc e0 e1 e2 e3 e4 e5
      have S1 := hide ((unhide H6).snoc (goodE x) r cx (fun i hi => by obtain ⟨a, ea, hh⟩ := em i (by have := List.length_take (i := 9) (l := x.ms); simp only [goodE] at hi; omega); exact ⟨a, ea, by simp only [goodE] at hi ⊢; rw [take_getD _ _ _ hi]; exact hh⟩) (goodT_le _ t1) (by simp only [goodE, List.length_take]; omega) t3 t4)
      have EM : Hid ((es.take (j + 1)).map goodE = (es.take j).map goodE ++ [goodE x]) := by show _ = _; rw [tk]; simp
      have EL : Hid (min x.ms.length 9 = (goodE x).ms.length) := by show _ = _; simp only [goodE, List.length_take]; exact Nat.min_comm _ _
      obtain ⟨nm, hnm⟩ : ∃ nm, x.ms.length = nm := ⟨_, rfl⟩
      rw [hnm] at d4 t2 EL
      have G := hide (good_any x.kind x.client x.seq x.to x.text r nm cx t2 t3 t4 t1 wr)
      rw [show min nm 9 = (goodE x).ms.length from unhide EL] at G
      generalize (goodE x).ms.length = nl at *
      clear tk em hnm EL
      have ON : ∀ u ∈ [Value.int .i64 (x.kind % 5), .int .i64 x.client, .int .i64 x.seq, .string (goodT x.text), .slice r nl cx, .int .i64 (x.to % 3)], u.oneCell' = true := by
        intro u hu
        simp only [List.mem_cons, List.not_mem_nil, or_false] at hu
        rcases hu with rfl | rfl | rfl | rfl | rfl | rfl <;> rfl
      have HON := hide ON
      clear ON
      go_wp2_with fail
      refine (unhide G).mono ?_
      rintro e w2 ⟨rfl, b2⟩
      have O2 := hide (own_below (unhide HO) b2)
      have HB2 := hide ((b2.block _ (heap_lt (unhide HBR))).trans (unhide HBR))
      have HZ2 := hide ((b2.block _ (heap_lt (unhide HZR))).trans (unhide HZR))
      have B2 := hide ((unhide BR).trans (b2.mono sr))
      have s2 : w.heap.size ≤ w2.heap.size := Nat.le_trans sr b2.size
      clear b2 G HO HBR HZR BR c9 c10 d0 d1 d2 d3 d4 d5
      go_wp2_with (at_builtin; refine wpList_append_own _ rfl (.tmp 21) (.tmp 28) 37 rfl w.heap.size 24 i0 _ 6 72 Tryd.underlying37 hi hz0 hz1 hz2 rfl (by decide) _ _ _ rfl ((unhide O2).alloc _) ⟨w2.heap.size, 0, none⟩ 1 1 _ rfl rfl news_at (unhide HON) (by unfold maxLen; omega) (by omega) (by simp; omega) ?_)
      intro v3 w3 own3 grow3 _
      have p3 := (Only.refl w.heap.size [24] w2).alloc s2 (.cells #[.int .i64 (x.kind % 5), .int .i64 x.client, .int .i64 x.seq, .string (goodT x.text), .slice r nl cx, .int .i64 (x.to % 3)] 24)
      have p4 := p3.own ((unhide O2).alloc _) grow3 (by simp; omega) (Nat.le_refl _) (by simp)
      obtain ⟨ao3, cap3, rfl⟩ := row_slice own3
      have O3 := hide own3
      have HB3 := hide (p4.block (unhide HB2) (by decide))
      have HZ3 := hide (p4.block (unhide HZ2) (by decide))
      have B3 := hide ((unhide B2).trans p4.below)
      clear own3 grow3 p3 p4 O2 HB2 HZ2 B2
      go_wp2
      go_roundg (K - (j + 1))
      case measure => have := unhide HJ; omega
      case rel => exact ⟨j + 1, _, ao3, cap3, by omega, by go_num, rfl, unhide O3, by rw [unhide EM]; exact unhide S1, unhide HB3, unhide HZ3, unhide B3⟩
    · have ej : j = K := by omega
      subst ej
      have e64 : es.take 64 = es.take j := by
        have hk := unhide HK
        rcases Nat.lt_or_ge ne 64 with h | h
        · rw [List.take_of_length_le (by rw [unhide HN]; omega), List.take_of_length_le (by rw [unhide HN]; omega)]
        · rw [show j = 64 by omega]
      have hl : ((es.take 64).map goodE).length = j := by rw [List.length_map, List.length_take, unhide HN]; have := unhide HK; omega
      have E64 := hide e64
      have HL := hide hl
      have hnot : ¬ (j < ne ∧ j < 64) := by have := unhide HK; omega
      have c11 : wr.cell? ⟨w.heap.size, 11, none⟩ = some (.slice aoo no co) := (cell_of_block (unhide HBR)).trans rfl
      have c12 : wr.cell? ⟨w.heap.size, 12, none⟩ = some (.slice (some ad3) nn cn) := (cell_of_block (unhide HBR)).trans rfl
      have b0 : wr.cell? ⟨w.heap.size, 0, none⟩ = some (.int .i64 x0) := (cell_of_block (unhide HBR)).trans rfl
      have b1 : wr.cell? ⟨w.heap.size, 1, none⟩ = some (.int .i64 x1) := (cell_of_block (unhide HBR)).trans rfl
      have b2 : wr.cell? ⟨w.heap.size, 2, none⟩ = some (.int .i64 x2) := (cell_of_block (unhide HBR)).trans rfl
      have b3 : wr.cell? ⟨w.heap.size, 3, none⟩ = some (.int .i64 (1 + m15)) := (cell_of_block (unhide HBR)).trans rfl
      have b4 : wr.cell? ⟨w.heap.size, 4, none⟩ = some (.int .i64 x4) := (cell_of_block (unhide HBR)).trans rfl
      have b5 : wr.cell? ⟨w.heap.size, 5, none⟩ = some (.int .i64 x5) := (cell_of_block (unhide HBR)).trans rfl
      have b6 : wr.cell? ⟨w.heap.size, 6, none⟩ = some (.int .i64 x6) := (cell_of_block (unhide HBR)).trans rfl
      have b7 : wr.cell? ⟨w.heap.size, 7, none⟩ = some (.int .i64 x7) := (cell_of_block (unhide HBR)).trans rfl
      have b8 : wr.cell? ⟨w.heap.size, 8, none⟩ = some (.bool y) := (cell_of_block (unhide HBR)).trans rfl
      have z0 : wr.cell? ⟨w.heap.size + 1, 0, none⟩ = some (.int .i64 0) := (cell_of_block (unhide HZR)).trans rfl
      have z1 : wr.cell? ⟨w.heap.size + 1, 1, none⟩ = some (.int .i64 0) := (cell_of_block (unhide HZR)).trans rfl
      have z2 : wr.cell? ⟨w.heap.size + 1, 2, none⟩ = some (.int .i64 0) := (cell_of_block (unhide HZR)).trans rfl
      have z3 : wr.cell? ⟨w.heap.size + 1, 3, none⟩ = some (.int .i64 0) := (cell_of_block (unhide HZR)).trans rfl
      have z4 : wr.cell? ⟨w.heap.size + 1, 4, none⟩ = some (.int .i64 0) := (cell_of_block (unhide HZR)).trans rfl
      have z5 : wr.cell? ⟨w.heap.size + 1, 5, none⟩ = some (.int .i64 0) := (cell_of_block (unhide HZR)).trans rfl
      have z6 : wr.cell? ⟨w.heap.size + 1, 6, none⟩ = some (.int .i64 0) := (cell_of_block (unhide HZR)).trans rfl
      have z7 : wr.cell? ⟨w.heap.size + 1, 7, none⟩ = some (.int .i64 0) := (cell_of_block (unhide HZR)).trans rfl
      have z8 : wr.cell? ⟨w.heap.size + 1, 8, none⟩ = some (.bool false) := (cell_of_block (unhide HZR)).trans rfl
      have z9 : wr.cell? ⟨w.heap.size + 1, 9, none⟩ = some (.slice none 0 0) := (cell_of_block (unhide HZR)).trans rfl
      have z10 : wr.cell? ⟨w.heap.size + 1, 10, none⟩ = some (.slice none 0 0) := (cell_of_block (unhide HZR)).trans rfl
      have z11 : wr.cell? ⟨w.heap.size + 1, 11, none⟩ = some (.slice none 0 0) := (cell_of_block (unhide HZR)).trans rfl
      have z12 : wr.cell? ⟨w.heap.size + 1, 12, none⟩ = some (.slice none 0 0) := (cell_of_block (unhide HZR)).trans rfl
      have fb : ∀ i, wr.frozen? ⟨w.heap.size, i, none⟩ = false := fun i => free_of_block (unhide HBR)
      have fz : ∀ i, wr.frozen? ⟨w.heap.size + 1, i, none⟩ = false := fun i => free_of_block (unhide HZR)
      have hcl : j ≤ cap' ∧ cap' ≤ maxLen ∧ (ao' = none → cap' = 0) := by
        rcases (unhide HO).2 with ⟨q1, q2⟩ | ⟨g, c', cur, q1, _, _, q3, q4, _⟩
        · cases q1; exact ⟨by omega, by simp, fun _ => rfl⟩
        · cases q1; exact ⟨q3, by first | exact q4 | omega, fun h => by cases h⟩
      have HCL := hide hcl
      clear hl hlt e64 hcl
      by_cases n1 : j < ne
      · have n2 : ¬ j < 64 := fun h => hnot ⟨n1, h⟩
        clear hnot
        go_wp2
        have KK := (((Kept.refl w.heap.size (fun k => k = w.heap.size) wr).setCell (p := ⟨w.heap.size, 10, none⟩) (Nat.le_refl _) rfl (.slice ao' j cap')).setCell (p := ⟨w.heap.size, 12, none⟩) (Nat.le_refl _) rfl (.slice (some ad3) 9 cn))
        have OO := (set_one (set_one ⟨Only.refl w.heap.size [41] wr, unhide HBR⟩ (Nat.le_refl _) (by simp) 10 (.slice ao' j cap')) (Nat.le_refl _) (by simp) 12 (.slice (some ad3) 9 cn))
        obtain ⟨yw, hy⟩ : ∃ yw : World, yw = ((wr.setCell ⟨w.heap.size, 10, none⟩ (.slice ao' j cap')).setCell ⟨w.heap.size, 12, none⟩ (.slice (some ad3) 9 cn)) := ⟨_, rfl⟩
        rw [← hy] at KK OO ⊢
        have hz := (KK.2 _ (heap_lt (unhide HZR)) (by simp)).trans (unhide HZR)
        have by' := (unhide BR).trans KK.1
        have o1 := OO.1
        clear b0 b1 b2 b3 b4 b5 b6 b7 b8 z0 z1 z2 z3 z4 z5 z6 z7 z8 z9 z10 z11 z12 fb fz KK OO hy c9 c10 c11 c12
        obtain ⟨Wf, hW⟩ : ∃ Wf : World, Wf = (((((((((((((yw.setCell ⟨w.heap.size + 1, 0, none⟩ (.int .i64 x0)).setCell ⟨w.heap.size + 1, 1, none⟩ (.int .i64 x1)).setCell ⟨w.heap.size + 1, 2, none⟩ (.int .i64 x2)).setCell ⟨w.heap.size + 1, 3, none⟩ (.int .i64 (1 + m15))).setCell ⟨w.heap.size + 1, 4, none⟩ (.int .i64 x4)).setCell ⟨w.heap.size + 1, 5, none⟩ (.int .i64 x5)).setCell ⟨w.heap.size + 1, 6, none⟩ (.int .i64 x6)).setCell ⟨w.heap.size + 1, 7, none⟩ (.int .i64 x7)).setCell ⟨w.heap.size + 1, 8, none⟩ (.bool y)).setCell ⟨w.heap.size + 1, 9, none⟩ (.slice aot nt ct)).setCell ⟨w.heap.size + 1, 10, none⟩ (.slice ao' j cap')).setCell ⟨w.heap.size + 1, 11, none⟩ (.slice aoo no co)).setCell ⟨w.heap.size + 1, 12, none⟩ (.slice (some ad3) 9 cn)) := ⟨_, rfl⟩
        rw [← hW]
        obtain ⟨d0, d1, d2, d3, d4, d5, d6, d7, d8, d9, d10, d11, d12, bWf, o2⟩ := msg_end w yw _ _ _ _ _ _ _ _ _ _ _ _ _ hz by' Wf hW
        refine bodyPost_ret (v := .agg #[.int .i64 x0, .int .i64 x1, .int .i64 x2, .int .i64 (1 + m15), .int .i64 x4, .int .i64 x5, .int .i64 x6, .int .i64 x7, .bool y, .slice aot nt ct, .slice ao' j cap', .slice aoo no co, .slice (some ad3) 9 cn]) (by simp [results, Tryd.results23, go_sem, d0, d1, d2, d3, d4, d5, d6, d7, d8, d9, d10, d11, d12]) rfl ?_
        refine ⟨ao', j, cap', ?_, unhide HL, (unhide HCL).1, (unhide HCL).2.1, (unhide HCL).2.2, ?_, bWf⟩
        · rw [unhide HM, Nat.min_eq_left (by omega), Nat.min_eq_left (by omega), Nat.min_eq_right (by omega)]
        · rw [unhide E64]
          exact ⟨_, own_only (unhide HO) (o1.trans o2) (by decide), unhide H6⟩
      · clear hnot
        go_wp2
        have KK := (((Kept.refl w.heap.size (fun k => k = w.heap.size) wr).setCell (p := ⟨w.heap.size, 10, none⟩) (Nat.le_refl _) rfl (.slice ao' j cap')).setCell (p := ⟨w.heap.size, 12, none⟩) (Nat.le_refl _) rfl (.slice (some ad3) 9 cn))
        have OO := (set_one (set_one ⟨Only.refl w.heap.size [41] wr, unhide HBR⟩ (Nat.le_refl _) (by simp) 10 (.slice ao' j cap')) (Nat.le_refl _) (by simp) 12 (.slice (some ad3) 9 cn))
        obtain ⟨yw, hy⟩ : ∃ yw : World, yw = ((wr.setCell ⟨w.heap.size, 10, none⟩ (.slice ao' j cap')).setCell ⟨w.heap.size, 12, none⟩ (.slice (some ad3) 9 cn)) := ⟨_, rfl⟩
        rw [← hy] at KK OO ⊢
        have hz := (KK.2 _ (heap_lt (unhide HZR)) (by simp)).trans (unhide HZR)
        have by' := (unhide BR).trans KK.1
        have o1 := OO.1
        clear b0 b1 b2 b3 b4 b5 b6 b7 b8 z0 z1 z2 z3 z4 z5 z6 z7 z8 z9 z10 z11 z12 fb fz KK OO hy c9 c10 c11 c12
        obtain ⟨Wf, hW⟩ : ∃ Wf : World, Wf = (((((((((((((yw.setCell ⟨w.heap.size + 1, 0, none⟩ (.int .i64 x0)).setCell ⟨w.heap.size + 1, 1, none⟩ (.int .i64 x1)).setCell ⟨w.heap.size + 1, 2, none⟩ (.int .i64 x2)).setCell ⟨w.heap.size + 1, 3, none⟩ (.int .i64 (1 + m15))).setCell ⟨w.heap.size + 1, 4, none⟩ (.int .i64 x4)).setCell ⟨w.heap.size + 1, 5, none⟩ (.int .i64 x5)).setCell ⟨w.heap.size + 1, 6, none⟩ (.int .i64 x6)).setCell ⟨w.heap.size + 1, 7, none⟩ (.int .i64 x7)).setCell ⟨w.heap.size + 1, 8, none⟩ (.bool y)).setCell ⟨w.heap.size + 1, 9, none⟩ (.slice aot nt ct)).setCell ⟨w.heap.size + 1, 10, none⟩ (.slice ao' j cap')).setCell ⟨w.heap.size + 1, 11, none⟩ (.slice aoo no co)).setCell ⟨w.heap.size + 1, 12, none⟩ (.slice (some ad3) 9 cn)) := ⟨_, rfl⟩
        rw [← hW]
        obtain ⟨d0, d1, d2, d3, d4, d5, d6, d7, d8, d9, d10, d11, d12, bWf, o2⟩ := msg_end w yw _ _ _ _ _ _ _ _ _ _ _ _ _ hz by' Wf hW
        refine bodyPost_ret (v := .agg #[.int .i64 x0, .int .i64 x1, .int .i64 x2, .int .i64 (1 + m15), .int .i64 x4, .int .i64 x5, .int .i64 x6, .int .i64 x7, .bool y, .slice aot nt ct, .slice ao' j cap', .slice aoo no co, .slice (some ad3) 9 cn]) (by simp [results, Tryd.results23, go_sem, d0, d1, d2, d3, d4, d5, d6, d7, d8, d9, d10, d11, d12]) rfl ?_
        refine ⟨ao', j, cap', ?_, unhide HL, (unhide HCL).1, (unhide HCL).2.1, (unhide HCL).2.2, ?_, bWf⟩
        · rw [unhide HM, Nat.min_eq_left (by omega), Nat.min_eq_left (by omega), Nat.min_eq_right (by omega)]
        · rw [unhide E64]
          exact ⟨_, own_only (unhide HO) (o1.trans o2) (by decide), unhide H6⟩
set_option maxRecDepth 20000 in
set_option maxHeartbeats 4000000 in
theorem goodMsg_000 (x0 x1 x2 x3 x4 x5 x6 x7 : Int) (y : Bool) (aot aoe aoo aon : Option Addr) (nt ct ne ce no co nn cn : Nat) (es : List En) (hne : es.length = ne) (_l1 : nt ≤ ct) (l1' : ct ≤ maxLen) (l2 : ne ≤ maxLen) (_l3 : no ≤ co) (l3' : co ≤ maxLen) (_l4 : nn ≤ cn) (l4' : cn ≤ maxLen)
    (_u1 : aot = none → ct = 0) (_u3 : aoo = none → co = 0) (_u4 : aon = none → cn = 0) (w w0 : World) (h0w : Below w0.heap.size w0 w) (he : EntsAt w0 aoe es) (q1 : ¬ 64 < nt) (q2 : ¬ 9 < no) (q3 : ¬ 9 < nn) :
    Calls Tryd.prog 23 #[.agg #[.int .i64 x0, .int .i64 x1, .int .i64 x2, .int .i64 x3, .int .i64 x4, .int .i64 x5, .int .i64 x6, .int .i64 x7, .bool y, .slice aot nt ct, .slice aoe ne ce, .slice aoo no co, .slice aon nn cn]] w fun e w' => ∃ aol k cl, e = .returned (.agg #[.int .i64 x0, .int .i64 x1, .int .i64 x2, .int .i64 (1 + x3 % 15), .int .i64 x4, .int .i64 x5, .int .i64 x6, .int .i64 x7, .bool y, .slice aot (min nt 64) ct, .slice aol k cl, .slice aoo (min no 9) co, .slice aon (min nn 9) cn]) ∧ ((es.take 64).map goodE).length = k ∧ k ≤ cl ∧ cl ≤ maxLen ∧ (aol = none → cl = 0) ∧ (∃ vs, w'.ownsRow w.heap.size 24 6 (.slice aol k cl) k vs ∧ Six w0 vs ((es.take 64).map goodE)) ∧ Below w.heap.size w w' := by
  have l1' : ct ≤ 9223372036854775807 := l1'
  have l2 : ne ≤ 9223372036854775807 := l2
  have l3' : co ≤ 9223372036854775807 := l3'
  have l4' : cn ≤ 9223372036854775807 := l4'
  obtain ⟨i0, hi, hz0, hz1, hz2⟩ := info_parts Tryd.info_entry
  obtain ⟨W, hW⟩ : ∃ W, (w.alloc (.cells #[.int .i64 x0, .int .i64 x1, .int .i64 x2, .int .i64 x3, .int .i64 x4, .int .i64 x5, .int .i64 x6, .int .i64 x7, .bool y, .slice aot nt ct, .slice aoe ne ce, .slice aoo no co, .slice aon nn cn] 41)).alloc (.cells #[.int .i64 0, .int .i64 0, .int .i64 0, .int .i64 0, .int .i64 0, .int .i64 0, .int .i64 0, .int .i64 0, .bool false, .slice none 0 0, .slice none 0 0, .slice none 0 0, .slice none 0 0] 41) = W := ⟨_, rfl⟩
  have bW : Below w.heap.size w W := by rw [← hW]; exact ((Below.refl _ w).alloc (Nat.le_refl _) _).alloc (by simp) _
  have hb : W.heap[w.heap.size]? = some (.cells #[.int .i64 x0, .int .i64 x1, .int .i64 x2, .int .i64 x3, .int .i64 x4, .int .i64 x5, .int .i64 x6, .int .i64 x7, .bool y, .slice aot nt ct, .slice aoe ne ce, .slice aoo no co, .slice aon nn cn] 41 (0, 0)) := by rw [← hW]; exact (Below.heap_alloc _ _ _ (by simp)).trans (heap_alloc_new _ _)
  have hz : W.heap[w.heap.size + 1]? = some (.cells #[.int .i64 0, .int .i64 0, .int .i64 0, .int .i64 0, .int .i64 0, .int .i64 0, .int .i64 0, .int .i64 0, .bool false, .slice none 0 0, .slice none 0 0, .slice none 0 0, .slice none 0 0] 41 (0, 0)) := by
    rw [← hW]
    have h := heap_alloc_new (w.alloc (.cells #[.int .i64 x0, .int .i64 x1, .int .i64 x2, .int .i64 x3, .int .i64 x4, .int .i64 x5, .int .i64 x6, .int .i64 x7, .bool y, .slice aot nt ct, .slice aoe ne ce, .slice aoo no co, .slice aon nn cn] 41)) (.cells #[.int .i64 0, .int .i64 0, .int .i64 0, .int .i64 0, .int .i64 0, .int .i64 0, .int .i64 0, .int .i64 0, .bool false, .slice none 0 0, .slice none 0 0, .slice none 0 0, .slice none 0 0] 41)
    simpa using h
  have zW : w.heap.size + 2 ≤ W.heap.size := by rw [← hW]; simp
  have c3 : W.cell? ⟨w.heap.size, 3, none⟩ = some (.int .i64 x3) := (cell_of_block hb).trans rfl
  have f3 : W.frozen? ⟨w.heap.size, 3, none⟩ = false := free_of_block hb
  have HW := hide hW
  have BW := hide bW
  have HB := hide hb
  have HZ := hide hz
  have HE := hide he
  have H0 := hide h0w
  have HN := hide hne
  clear hW bW hb hz he hne h0w
  go_enter Tryd.func23, Tryd.ntmps23
  go_wp2_with fail
  rw [unhide HW]
  clear HW
  refine (within_any x3 15 W (by omega) (by omega)).mono ?_
  rintro e W' ⟨rfl, hw'⟩
  rw [hw']
  clear hw' W'
  have hm15 : 0 ≤ x3 % 15 ∧ x3 % 15 < 15 := ⟨Int.emod_nonneg _ (by decide), Int.emod_lt_of_pos _ (by decide)⟩
  obtain ⟨m15, hm⟩ : ∃ m, x3 % 15 = m := ⟨_, rfl⟩
  rw [hm] at hm15 ⊢
  have HM := hide hm
  clear hm
  go_wp2_with fail
  obtain ⟨W1, hW1⟩ : ∃ W1, W.setCell ⟨w.heap.size, 3, none⟩ (.int .i64 (1 + m15)) = W1 := ⟨_, rfl⟩
  have k1 : Kept w.heap.size (fun k => k = w.heap.size) W W1 := by rw [← hW1]; exact (Kept.refl w.heap.size (fun k => k = w.heap.size) W).setCell (p := ⟨w.heap.size, 3, none⟩) (Nat.le_refl _) rfl _
  have hb1 : W1.heap[w.heap.size]? = some (.cells #[.int .i64 x0, .int .i64 x1, .int .i64 x2, .int .i64 (1 + m15), .int .i64 x4, .int .i64 x5, .int .i64 x6, .int .i64 x7, .bool y, .slice aot nt ct, .slice aoe ne ce, .slice aoo no co, .slice aon nn cn] 41 (0, 0)) := by rw [← hW1]; exact setCell_block (unhide HB)
  have hz1 := (k1.2 _ (heap_lt (unhide HZ)) (by simp)).trans (unhide HZ)
  have bW1 := (unhide BW).trans k1.1
  rw [hW1]
  have HB1 := hide hb1
  have HZ1 := hide hz1
  have B1 := hide bW1
  have zW1 : w.heap.size + 2 ≤ W1.heap.size := Nat.le_trans zW k1.size
  clear hW1 k1 hb1 hz1 bW1 HB HZ BW c3 f3
  obtain ⟨K, hK⟩ : ∃ K, min ne 64 = K := ⟨_, rfl⟩
  have hK1 : K ≤ ne := by omega
  have hK2 : K ≤ 64 := by omega
  have HK := hide hK
  clear hK
  go_loopg [3, 4] K (fun g lv iv wr => ∃ (j : Nat) (vs : List Value) (ao' : Option Addr) (cap' : Nat), j + g = K ∧ iv = .int .i64 (j : Int) ∧ lv = .slice ao' j cap' ∧ wr.ownsRow w.heap.size 24 6 (.slice ao' j cap') j vs ∧ Six w0 vs ((es.take j).map goodE) ∧ wr.heap[w.heap.size]? = some (.cells #[.int .i64 x0, .int .i64 x1, .int .i64 x2, .int .i64 (1 + m15), .int .i64 x4, .int .i64 x5, .int .i64 x6, .int .i64 x7, .bool y, .slice aot nt ct, .slice aoe ne ce, .slice aoo no co, .slice aon nn cn] 41 (0, 0)) ∧ wr.heap[w.heap.size + 1]? = some (.cells #[.int .i64 0, .int .i64 0, .int .i64 0, .int .i64 0, .int .i64 0, .int .i64 0, .int .i64 0, .int .i64 0, .bool false, .slice none 0 0, .slice none 0 0, .slice none 0 0, .slice none 0 0] 41 (0, 0)) ∧ Below w.heap.size w wr)
  case atStart => exact ⟨0, [], none, 0, by omega, rfl, rfl, World.ownsRow_nil _ _ _ _, Six.nil _, unhide HB1, unhide HZ1, unhide B1⟩
  case round =>
    obtain ⟨j, vs, ao', cap', hj, rfl, rfl, ho, h6, hbr, hzr, br⟩ := hrel
    have HJ := hide hj
    have HO := hide ho
    have H6 := hide h6
    have HBR := hide hbr
    have HZR := hide hzr
    have BR := hide br
    have c9 : wr.cell? ⟨w.heap.size, 9, none⟩ = some (.slice aot nt ct) := (cell_of_block hbr).trans rfl
    have c10 : wr.cell? ⟨w.heap.size, 10, none⟩ = some (.slice aoe ne ce) := (cell_of_block hbr).trans rfl
    have sr : w.heap.size ≤ wr.heap.size := br.size
    have hjK : j ≤ K := by omega
    clear hj ho h6 hbr hzr br HB1 HZ1 B1
    by_cases hlt : j < K
    · have h1 : j < ne := by omega
      have h2 : j < 64 := by omega
      obtain ⟨blk, off, r, cx, rfl, e0, e1, e2, e3, e4, e5, em, t1, t2, t3, t4⟩ := (unhide HE) j (by rw [unhide HN]; exact h1)
      have tk : es.take (j + 1) = es.take j ++ [es.getD j default] := take_succ es default j (by rw [unhide HN]; exact h1)
      have hcc : ∀ a u, w0.cell? a = some u → wr.cell? a = some u := fun a u h => by rw [((unhide H0).trans ((unhide BR).mono (unhide H0).size)).cell (blk_lt h)]; exact h
      generalize es.getD j default = x at *
      have d0 := hcc _ _ e0
      have d1 := hcc _ _ e1
      have d2 := hcc _ _ e2
      have d3 := hcc _ _ e3
      have d4 := hcc _ _ e4
      have d5 := hcc _ _ e5
      clear hcc e0 e1 e2 e3 e4 e5
      have S1 := hide ((unhide H6).snoc (goodE x) r cx (fun i hi => by obtain ⟨a, ea, hh⟩ := em i (by have := List.length_take (i := 9) (l := x.ms); simp only [goodE] at hi; omega); exact ⟨a, ea, by simp only [goodE] at hi ⊢; rw [take_getD _ _ _ hi]; exact hh⟩) (goodT_le _ t1) (by simp only [goodE, List.length_take]; omega) t3 t4)
      have EM : Hid ((es.take (j + 1)).map goodE = (es.take j).map goodE ++ [goodE x]) := by show _ = _; rw [tk]; simp
      have EL : Hid (min x.ms.length 9 = (goodE x).ms.length) := by show _ = _; simp only [goodE, List.length_take]; exact Nat.min_comm _ _
      obtain ⟨nm, hnm⟩ : ∃ nm, x.ms.length = nm := ⟨_, rfl⟩
      rw [hnm] at d4 t2 EL
      have G := hide (good_any x.kind x.client x.seq x.to x.text r nm cx t2 t3 t4 t1 wr)
      rw [show min nm 9 = (goodE x).ms.length from unhide EL] at G
      generalize (goodE x).ms.length = nl at *
      clear tk em hnm EL
      have ON : ∀ u ∈ [Value.int .i64 (x.kind % 5), .int .i64 x.client, .int .i64 x.seq, .string (goodT x.text), .slice r nl cx, .int .i64 (x.to % 3)], u.oneCell' = true := by
        intro u hu
        simp only [List.mem_cons, List.not_mem_nil, or_false] at hu
        rcases hu with rfl | rfl | rfl | rfl | rfl | rfl <;> rfl
      have HON := hide ON
      clear ON
      go_wp2_with fail
      refine (unhide G).mono ?_
      rintro e w2 ⟨rfl, b2⟩
      have O2 := hide (own_below (unhide HO) b2)
      have HB2 := hide ((b2.block _ (heap_lt (unhide HBR))).trans (unhide HBR))
      have HZ2 := hide ((b2.block _ (heap_lt (unhide HZR))).trans (unhide HZR))
      have B2 := hide ((unhide BR).trans (b2.mono sr))
      have s2 : w.heap.size ≤ w2.heap.size := Nat.le_trans sr b2.size
      clear b2 G HO HBR HZR BR c9 c10 d0 d1 d2 d3 d4 d5
      go_wp2_with (at_builtin; refine wpList_append_own _ rfl (.tmp 21) (.tmp 28) 37 rfl w.heap.size 24 i0 _ 6 72 Tryd.underlying37 hi hz0 hz1 hz2 rfl (by decide) _ _ _ rfl ((unhide O2).alloc _) ⟨w2.heap.size, 0, none⟩ 1 1 _ rfl rfl news_at (unhide HON) (by unfold maxLen; omega) (by omega) (by simp; omega) ?_)
      intro v3 w3 own3 grow3 _
      have p3 := (Only.refl w.heap.size [24] w2).alloc s2 (.cells #[.int .i64 (x.kind % 5), .int .i64 x.client, .int .i64 x.seq, .string (goodT x.text), .slice r nl cx, .int .i64 (x.to % 3)] 24)
      have p4 := p3.own ((unhide O2).alloc _) grow3 (by simp; omega) (Nat.le_refl _) (by simp)
      obtain ⟨ao3, cap3, rfl⟩ := row_slice own3
      have O3 := hide own3
      have HB3 := hide (p4.block (unhide HB2) (by decide))
      have HZ3 := hide (p4.block (unhide HZ2) (by decide))
      have B3 := hide ((unhide B2).trans p4.below)
      clear own3 grow3 p3 p4 O2 HB2 HZ2 B2
      go_wp2
      go_roundg (K - (j + 1))
      case measure => have := unhide HJ; omega
      case rel => exact ⟨j + 1, _, ao3, cap3, by omega, by go_num, rfl, unhide O3, by rw [unhide EM]; exact unhide S1, unhide HB3, unhide HZ3, unhide B3⟩
    · have ej : j = K := by omega
      subst ej
      have e64 : es.take 64 = es.take j := by
        have hk := unhide HK
        rcases Nat.lt_or_ge ne 64 with h | h
        · rw [List.take_of_length_le (by rw [unhide HN]; omega), List.take_of_length_le (by rw [unhide HN]; omega)]
        · rw [show j = 64 by omega]
      have hl : ((es.take 64).map goodE).length = j := by rw [List.length_map, List.length_take, unhide HN]; have := unhide HK; omega
      have E64 := hide e64
      have HL := hide hl
      have hnot : ¬ (j < ne ∧ j < 64) := by have := unhide HK; omega
      have c11 : wr.cell? ⟨w.heap.size, 11, none⟩ = some (.slice aoo no co) := (cell_of_block (unhide HBR)).trans rfl
      have c12 : wr.cell? ⟨w.heap.size, 12, none⟩ = some (.slice aon nn cn) := (cell_of_block (unhide HBR)).trans rfl
      have b0 : wr.cell? ⟨w.heap.size, 0, none⟩ = some (.int .i64 x0) := (cell_of_block (unhide HBR)).trans rfl
      have b1 : wr.cell? ⟨w.heap.size, 1, none⟩ = some (.int .i64 x1) := (cell_of_block (unhide HBR)).trans rfl
      have b2 : wr.cell? ⟨w.heap.size, 2, none⟩ = some (.int .i64 x2) := (cell_of_block (unhide HBR)).trans rfl
      have b3 : wr.cell? ⟨w.heap.size, 3, none⟩ = some (.int .i64 (1 + m15)) := (cell_of_block (unhide HBR)).trans rfl
      have b4 : wr.cell? ⟨w.heap.size, 4, none⟩ = some (.int .i64 x4) := (cell_of_block (unhide HBR)).trans rfl
      have b5 : wr.cell? ⟨w.heap.size, 5, none⟩ = some (.int .i64 x5) := (cell_of_block (unhide HBR)).trans rfl
      have b6 : wr.cell? ⟨w.heap.size, 6, none⟩ = some (.int .i64 x6) := (cell_of_block (unhide HBR)).trans rfl
      have b7 : wr.cell? ⟨w.heap.size, 7, none⟩ = some (.int .i64 x7) := (cell_of_block (unhide HBR)).trans rfl
      have b8 : wr.cell? ⟨w.heap.size, 8, none⟩ = some (.bool y) := (cell_of_block (unhide HBR)).trans rfl
      have z0 : wr.cell? ⟨w.heap.size + 1, 0, none⟩ = some (.int .i64 0) := (cell_of_block (unhide HZR)).trans rfl
      have z1 : wr.cell? ⟨w.heap.size + 1, 1, none⟩ = some (.int .i64 0) := (cell_of_block (unhide HZR)).trans rfl
      have z2 : wr.cell? ⟨w.heap.size + 1, 2, none⟩ = some (.int .i64 0) := (cell_of_block (unhide HZR)).trans rfl
      have z3 : wr.cell? ⟨w.heap.size + 1, 3, none⟩ = some (.int .i64 0) := (cell_of_block (unhide HZR)).trans rfl
      have z4 : wr.cell? ⟨w.heap.size + 1, 4, none⟩ = some (.int .i64 0) := (cell_of_block (unhide HZR)).trans rfl
      have z5 : wr.cell? ⟨w.heap.size + 1, 5, none⟩ = some (.int .i64 0) := (cell_of_block (unhide HZR)).trans rfl
      have z6 : wr.cell? ⟨w.heap.size + 1, 6, none⟩ = some (.int .i64 0) := (cell_of_block (unhide HZR)).trans rfl
      have z7 : wr.cell? ⟨w.heap.size + 1, 7, none⟩ = some (.int .i64 0) := (cell_of_block (unhide HZR)).trans rfl
      have z8 : wr.cell? ⟨w.heap.size + 1, 8, none⟩ = some (.bool false) := (cell_of_block (unhide HZR)).trans rfl
      have z9 : wr.cell? ⟨w.heap.size + 1, 9, none⟩ = some (.slice none 0 0) := (cell_of_block (unhide HZR)).trans rfl
      have z10 : wr.cell? ⟨w.heap.size + 1, 10, none⟩ = some (.slice none 0 0) := (cell_of_block (unhide HZR)).trans rfl
      have z11 : wr.cell? ⟨w.heap.size + 1, 11, none⟩ = some (.slice none 0 0) := (cell_of_block (unhide HZR)).trans rfl
      have z12 : wr.cell? ⟨w.heap.size + 1, 12, none⟩ = some (.slice none 0 0) := (cell_of_block (unhide HZR)).trans rfl
      have fb : ∀ i, wr.frozen? ⟨w.heap.size, i, none⟩ = false := fun i => free_of_block (unhide HBR)
      have fz : ∀ i, wr.frozen? ⟨w.heap.size + 1, i, none⟩ = false := fun i => free_of_block (unhide HZR)
      have hcl : j ≤ cap' ∧ cap' ≤ maxLen ∧ (ao' = none → cap' = 0) := by
        rcases (unhide HO).2 with ⟨q1, q2⟩ | ⟨g, c', cur, q1, _, _, q3, q4, _⟩
        · cases q1; exact ⟨by omega, by simp, fun _ => rfl⟩
        · cases q1; exact ⟨q3, by first | exact q4 | omega, fun h => by cases h⟩
      have HCL := hide hcl
      clear hl hlt e64 hcl
      by_cases n1 : j < ne
      · have n2 : ¬ j < 64 := fun h => hnot ⟨n1, h⟩
        clear hnot
        go_wp2
        have KK := ((Kept.refl w.heap.size (fun k => k = w.heap.size) wr).setCell (p := ⟨w.heap.size, 10, none⟩) (Nat.le_refl _) rfl (.slice ao' j cap'))
        have OO := (set_one ⟨Only.refl w.heap.size [41] wr, unhide HBR⟩ (Nat.le_refl _) (by simp) 10 (.slice ao' j cap'))
        obtain ⟨yw, hy⟩ : ∃ yw : World, yw = (wr.setCell ⟨w.heap.size, 10, none⟩ (.slice ao' j cap')) := ⟨_, rfl⟩
        rw [← hy] at KK OO ⊢
        have hz := (KK.2 _ (heap_lt (unhide HZR)) (by simp)).trans (unhide HZR)
        have by' := (unhide BR).trans KK.1
        have o1 := OO.1
        clear b0 b1 b2 b3 b4 b5 b6 b7 b8 z0 z1 z2 z3 z4 z5 z6 z7 z8 z9 z10 z11 z12 fb fz KK OO hy c9 c10 c11 c12
        obtain ⟨Wf, hW⟩ : ∃ Wf : World, Wf = (((((((((((((yw.setCell ⟨w.heap.size + 1, 0, none⟩ (.int .i64 x0)).setCell ⟨w.heap.size + 1, 1, none⟩ (.int .i64 x1)).setCell ⟨w.heap.size + 1, 2, none⟩ (.int .i64 x2)).setCell ⟨w.heap.size + 1, 3, none⟩ (.int .i64 (1 + m15))).setCell ⟨w.heap.size + 1, 4, none⟩ (.int .i64 x4)).setCell ⟨w.heap.size + 1, 5, none⟩ (.int .i64 x5)).setCell ⟨w.heap.size + 1, 6, none⟩ (.int .i64 x6)).setCell ⟨w.heap.size + 1, 7, none⟩ (.int .i64 x7)).setCell ⟨w.heap.size + 1, 8, none⟩ (.bool y)).setCell ⟨w.heap.size + 1, 9, none⟩ (.slice aot nt ct)).setCell ⟨w.heap.size + 1, 10, none⟩ (.slice ao' j cap')).setCell ⟨w.heap.size + 1, 11, none⟩ (.slice aoo no co)).setCell ⟨w.heap.size + 1, 12, none⟩ (.slice aon nn cn)) := ⟨_, rfl⟩
        rw [← hW]
        obtain ⟨d0, d1, d2, d3, d4, d5, d6, d7, d8, d9, d10, d11, d12, bWf, o2⟩ := msg_end w yw _ _ _ _ _ _ _ _ _ _ _ _ _ hz by' Wf hW
        refine bodyPost_ret (v := .agg #[.int .i64 x0, .int .i64 x1, .int .i64 x2, .int .i64 (1 + m15), .int .i64 x4, .int .i64 x5, .int .i64 x6, .int .i64 x7, .bool y, .slice aot nt ct, .slice ao' j cap', .slice aoo no co, .slice aon nn cn]) (by simp [results, Tryd.results23, go_sem, d0, d1, d2, d3, d4, d5, d6, d7, d8, d9, d10, d11, d12]) rfl ?_
        refine ⟨ao', j, cap', ?_, unhide HL, (unhide HCL).1, (unhide HCL).2.1, (unhide HCL).2.2, ?_, bWf⟩
        · rw [unhide HM, Nat.min_eq_left (by omega), Nat.min_eq_left (by omega), Nat.min_eq_left (by omega)]
        · rw [unhide E64]
          exact ⟨_, own_only (unhide HO) (o1.trans o2) (by decide), unhide H6⟩
      · clear hnot
        go_wp2
        have KK := ((Kept.refl w.heap.size (fun k => k = w.heap.size) wr).setCell (p := ⟨w.heap.size, 10, none⟩) (Nat.le_refl _) rfl (.slice ao' j cap'))
        have OO := (set_one ⟨Only.refl w.heap.size [41] wr, unhide HBR⟩ (Nat.le_refl _) (by simp) 10 (.slice ao' j cap'))
        obtain ⟨yw, hy⟩ : ∃ yw : World, yw = (wr.setCell ⟨w.heap.size, 10, none⟩ (.slice ao' j cap')) := ⟨_, rfl⟩
        rw [← hy] at KK OO ⊢
        have hz := (KK.2 _ (heap_lt (unhide HZR)) (by simp)).trans (unhide HZR)
        have by' := (unhide BR).trans KK.1
        have o1 := OO.1
        clear b0 b1 b2 b3 b4 b5 b6 b7 b8 z0 z1 z2 z3 z4 z5 z6 z7 z8 z9 z10 z11 z12 fb fz KK OO hy c9 c10 c11 c12
        obtain ⟨Wf, hW⟩ : ∃ Wf : World, Wf = (((((((((((((yw.setCell ⟨w.heap.size + 1, 0, none⟩ (.int .i64 x0)).setCell ⟨w.heap.size + 1, 1, none⟩ (.int .i64 x1)).setCell ⟨w.heap.size + 1, 2, none⟩ (.int .i64 x2)).setCell ⟨w.heap.size + 1, 3, none⟩ (.int .i64 (1 + m15))).setCell ⟨w.heap.size + 1, 4, none⟩ (.int .i64 x4)).setCell ⟨w.heap.size + 1, 5, none⟩ (.int .i64 x5)).setCell ⟨w.heap.size + 1, 6, none⟩ (.int .i64 x6)).setCell ⟨w.heap.size + 1, 7, none⟩ (.int .i64 x7)).setCell ⟨w.heap.size + 1, 8, none⟩ (.bool y)).setCell ⟨w.heap.size + 1, 9, none⟩ (.slice aot nt ct)).setCell ⟨w.heap.size + 1, 10, none⟩ (.slice ao' j cap')).setCell ⟨w.heap.size + 1, 11, none⟩ (.slice aoo no co)).setCell ⟨w.heap.size + 1, 12, none⟩ (.slice aon nn cn)) := ⟨_, rfl⟩
        rw [← hW]
        obtain ⟨d0, d1, d2, d3, d4, d5, d6, d7, d8, d9, d10, d11, d12, bWf, o2⟩ := msg_end w yw _ _ _ _ _ _ _ _ _ _ _ _ _ hz by' Wf hW
        refine bodyPost_ret (v := .agg #[.int .i64 x0, .int .i64 x1, .int .i64 x2, .int .i64 (1 + m15), .int .i64 x4, .int .i64 x5, .int .i64 x6, .int .i64 x7, .bool y, .slice aot nt ct, .slice ao' j cap', .slice aoo no co, .slice aon nn cn]) (by simp [results, Tryd.results23, go_sem, d0, d1, d2, d3, d4, d5, d6, d7, d8, d9, d10, d11, d12]) rfl ?_
        refine ⟨ao', j, cap', ?_, unhide HL, (unhide HCL).1, (unhide HCL).2.1, (unhide HCL).2.2, ?_, bWf⟩
        · rw [unhide HM, Nat.min_eq_left (by omega), Nat.min_eq_left (by omega), Nat.min_eq_left (by omega)]
        · rw [unhide E64]
          exact ⟨_, own_only (unhide HO) (o1.trans o2) (by decide), unhide H6⟩
end Go.Proofs.YtojmnlbdhpledaaDoor

/- link's taking: a contract. -/
import Derived.Test.YtkanolmcaoecgaaLReach
namespace Go.Proofs.Ytkanolmcaoecgaa
open Go.RowKit

set_option maxHeartbeats 2000000 in
set_option maxRecDepth 20000 in
theorem taking_any (h : Hd) (l n : Nat) (w : World) (ho : h.ok) (hl : l < 9223372036854775808) (hn63 : n < 9223372036854775808) :
    Calls Try.prog 21 #[.agg h.cells, .int .i64 (l : Int), .int .i64 (n : Int)] w fun e w' => e = .returned (.agg (h.taking l n).cells) ∧ Below w.heap.size w w' := by
  obtain ⟨W, hW⟩ : ∃ W, (w.alloc (.cells h.cells 59)).alloc (.cells Hd.none.cells 59) = W := ⟨_, rfl⟩
  have tW : Two w.heap.size w W h := by
    rw [← hW]
    have e1 : (w.alloc (.cells h.cells 59)).heap.size = w.heap.size + 1 := by rw [World.size_alloc]
    refine ⟨?_, ?_, ((Below.refl _ w).alloc (Nat.le_refl _) _).alloc (by rw [e1]; omega) _⟩
    · rw [Below.heap_alloc _ _ _ (by rw [e1]; omega)]; exact heap_alloc_new _ _
    · rw [← e1]; exact heap_alloc_new _ _
  have c0 : W.cell? ⟨w.heap.size, 0, none⟩ = some (.int .i64 (h.life : Int)) := bcell tW.1 rfl
  obtain ⟨L, hL⟩ : ∃ L, h.life = L := ⟨_, rfl⟩
  obtain ⟨g, hg⟩ : ∃ g, h.begun l = g := ⟨_, rfl⟩
  have GO : Hid g.ok := by rw [← hg]; exact begun_ok ho hl
  have HG := hide hg
  have HW := hide hW
  by_cases hlt : L < l
  · have hltI : (L : Int) < (l : Int) := by omega
    have eg : g = ⟨l, 0, 0, 0, 0, 0⟩ := by rw [← hg]; unfold Hd.begun; rw [if_pos (by rw [hL]; exact hlt)]
    have fzW : ∀ j, W.frozen? ⟨w.heap.size, j, none⟩ = false := fun j => free_of_block tW.1
    have a0 : W.cell? ⟨w.heap.size, 0, none⟩ = some (.int .i64 (h.life : Int)) := bcell tW.1 rfl
    have a1 : W.cell? ⟨w.heap.size, 1, none⟩ = some (.int .i64 (h.top : Int)) := bcell tW.1 rfl
    have a2 : W.cell? ⟨w.heap.size, 2, none⟩ = some (.int .u64 (h.w0 : Int)) := bcell tW.1 rfl
    have a3 : W.cell? ⟨w.heap.size, 3, none⟩ = some (.int .u64 (h.w1 : Int)) := bcell tW.1 rfl
    have a4 : W.cell? ⟨w.heap.size, 4, none⟩ = some (.int .u64 (h.w2 : Int)) := bcell tW.1 rfl
    have a5 : W.cell? ⟨w.heap.size, 5, none⟩ = some (.int .u64 (h.w3 : Int)) := bcell tW.1 rfl
    rw [hL] at c0 a0
    obtain ⟨V, hV⟩ : ∃ V, setHd W w.heap.size g = V := ⟨_, rfl⟩
    have v1 : V.heap[w.heap.size]? = some (.cells g.cells 59 (0, 0)) := by rw [← hV]; exact setHd_block tW.1 _
    have v2 : V.heap[w.heap.size + 1]? = some (.cells Hd.none.cells 59 (0, 0)) := by rw [← hV]; exact (setHd_other (by omega) _).trans tW.2.1
    have bV : Below w.heap.size w V := by rw [← hV]; exact tW.2.2.trans (setHd_below (Nat.le_refl _) _)
    have HV := hide hV
    have HC := hide eg
    have V1 := hide v1
    have V2 := hide v2
    have BV := hide bV
    clear hW tW hV hg v1 v2 bV eg ho hL
    go_enter Try.func21, Try.ntmps21
    go_upto_region 1 with fail
    rw [show (w.alloc (.cells h.cells 59)).alloc (.cells #[.int .i64 0, .int .i64 0, .int .u64 0, .int .u64 0, .int .u64 0, .int .u64 0] 59) = W from unhide HW]
    clear HW
    go_upto_region 3 with fail
    rw [show setHd W w.heap.size g = setHd W w.heap.size ⟨l, 0, 0, 0, 0, 0⟩ by rw [unhide HC]] at HV
    change Code.wp _ _ _ _ (setHd W w.heap.size ⟨l, 0, 0, 0, 0, 0⟩)
    rw [unhide HV]
    clear HV c0 a0 a1 a2 a3 a4 a5 fzW
    have v1 := unhide V1
    have v2 := unhide V2
    have bV := unhide BV
    clear V1 V2 BV
    have hgo := unhide GO
    have rc := reach_any g n V hgo hn63
    obtain ⟨r, hr⟩ : ∃ r, g.reach n = r := ⟨_, rfl⟩
    rw [hr] at rc
    have RC := hide rc
    clear rc
    have c0 : V.cell? ⟨w.heap.size, 0, none⟩ = some (.int .i64 (g.life : Int)) := bcell v1 rfl
    have c1 : V.cell? ⟨w.heap.size, 1, none⟩ = some (.int .i64 (g.top : Int)) := bcell v1 rfl
    have c2 : V.cell? ⟨w.heap.size, 2, none⟩ = some (.int .u64 (g.w0 : Int)) := bcell v1 rfl
    have c3 : V.cell? ⟨w.heap.size, 3, none⟩ = some (.int .u64 (g.w1 : Int)) := bcell v1 rfl
    have c4 : V.cell? ⟨w.heap.size, 4, none⟩ = some (.int .u64 (g.w2 : Int)) := bcell v1 rfl
    have c5 : V.cell? ⟨w.heap.size, 5, none⟩ = some (.int .u64 (g.w3 : Int)) := bcell v1 rfl
    have hvs : w.heap.size + 1 < V.heap.size := blk_lt' v2
    have V1 := hide v1
    have V2 := hide v2
    have BV := hide bV
    clear v1 v2 bV hgo
    go_wp2_with fail
    refine (unhide RC).mono ?_
    simp only [Hd.cells]
    rintro e w1 ⟨rfl, b1⟩
    have x1 : w1.heap[w.heap.size]? = some (.cells g.cells 59 (0, 0)) := (b1.block _ (by omega)).trans (unhide V1)
    have x2 : w1.heap[w.heap.size + 1]? = some (.cells Hd.none.cells 59 (0, 0)) := (b1.block _ (by omega)).trans (unhide V2)
    have bW1 : Below w.heap.size w w1 := (unhide BV).trans (b1.mono (by omega))
    have rok : r.ok := by rw [← hr]; exact reach_ok (unhide GO) hn63
    have HR := hide hr
    have y0 : w1.cell? ⟨w.heap.size, 0, none⟩ = some (.int .i64 (g.life : Int)) := bcell x1 rfl
    have y1 : w1.cell? ⟨w.heap.size, 1, none⟩ = some (.int .i64 (g.top : Int)) := bcell x1 rfl
    have y2 : w1.cell? ⟨w.heap.size, 2, none⟩ = some (.int .u64 (g.w0 : Int)) := bcell x1 rfl
    have y3 : w1.cell? ⟨w.heap.size, 3, none⟩ = some (.int .u64 (g.w1 : Int)) := bcell x1 rfl
    have y4 : w1.cell? ⟨w.heap.size, 4, none⟩ = some (.int .u64 (g.w2 : Int)) := bcell x1 rfl
    have y5 : w1.cell? ⟨w.heap.size, 5, none⟩ = some (.int .u64 (g.w3 : Int)) := bcell x1 rfl
    have fz1 : ∀ j, w1.frozen? ⟨w.heap.size, j, none⟩ = false := fun j => free_of_block x1
    obtain ⟨W3, hW3⟩ : ∃ W3, setHd w1 w.heap.size r = W3 := ⟨_, rfl⟩
    have tW : Two w.heap.size w W3 r := by
      rw [← hW3]
      exact ⟨setHd_block x1 _, (setHd_other (by omega) _).trans x2, bW1.trans (setHd_below (Nat.le_refl _) _)⟩
    have hwl := word_lt rok (n % 256 / 64)
    have hzl := pow_lt n
    have c2 : W3.cell? ⟨w.heap.size, 2 + n % 256 / 64, none⟩ = some (.int .u64 (r.word (n % 256 / 64) : Int)) := bcell tW.1 (cell_word r _ (by omega))
    have fz : W3.frozen? ⟨w.heap.size, 2 + n % 256 / 64, none⟩ = false := free_of_block tW.1
    obtain ⟨q, hq⟩ : ∃ q, r.word (n % 256 / 64) = q := ⟨_, rfl⟩
    have ST := tW.set (n % 256 / 64) (q ||| 2 ^ (n % 64)) (by omega)
    rw [show r.put (n % 256 / 64) (q ||| 2 ^ (n % 64)) = r.mark n by rw [← hq]; rfl] at ST
    rw [hq] at c2 hwl
    rw [← u64_or_nat q _ hwl hzl] at ST
    have SW := hide (fun w => word_any n w hn63)
    have SB := hide (fun w => bit_any n w hn63)
    obtain ⟨k, hk⟩ : ∃ k, n % 256 / 64 = k := ⟨_, rfl⟩
    obtain ⟨z, hz⟩ : ∃ z, 2 ^ (n % 64) = z := ⟨_, rfl⟩
    have hk4 : (k : Int) < 4 := by omega
    rw [hk] at c2 fz ST SW
    rw [hz] at ST SB hzl
    obtain ⟨m, hm⟩ : ∃ m, r.mark n = m := ⟨_, rfl⟩
    rw [hm] at ST
    have HT : Hid (h.taking l n = m) := by show ((h.begun l).reach n).mark n = m; rw [unhide HG, hr, hm]
    obtain ⟨W4, hW4⟩ : ∃ W4, (W3.setCell ⟨w.heap.size, 2 + k, none⟩ (.int .u64 (bits .or .u64 (q : Int) (z : Int)))).drew = W4 := ⟨_, rfl⟩
    have tX : Two w.heap.size w W4 m := by rw [← hW4]; exact ST.drew
    have d0 : W4.cell? ⟨w.heap.size, 0, none⟩ = some (.int .i64 (m.life : Int)) := bcell tX.1 rfl
    have d1 : W4.cell? ⟨w.heap.size, 1, none⟩ = some (.int .i64 (m.top : Int)) := bcell tX.1 rfl
    have d2 : W4.cell? ⟨w.heap.size, 2, none⟩ = some (.int .u64 (m.w0 : Int)) := bcell tX.1 rfl
    have d3 : W4.cell? ⟨w.heap.size, 3, none⟩ = some (.int .u64 (m.w1 : Int)) := bcell tX.1 rfl
    have d4 : W4.cell? ⟨w.heap.size, 4, none⟩ = some (.int .u64 (m.w2 : Int)) := bcell tX.1 rfl
    have d5 : W4.cell? ⟨w.heap.size, 5, none⟩ = some (.int .u64 (m.w3 : Int)) := bcell tX.1 rfl
    have f0 : W4.cell? ⟨w.heap.size + 1, 0, none⟩ = some (.int .i64 0) := bcell tX.2.1 rfl
    have f1 : W4.cell? ⟨w.heap.size + 1, 1, none⟩ = some (.int .i64 0) := bcell tX.2.1 rfl
    have f2 : W4.cell? ⟨w.heap.size + 1, 2, none⟩ = some (.int .u64 0) := bcell tX.2.1 rfl
    have f3 : W4.cell? ⟨w.heap.size + 1, 3, none⟩ = some (.int .u64 0) := bcell tX.2.1 rfl
    have f4 : W4.cell? ⟨w.heap.size + 1, 4, none⟩ = some (.int .u64 0) := bcell tX.2.1 rfl
    have f5 : W4.cell? ⟨w.heap.size + 1, 5, none⟩ = some (.int .u64 0) := bcell tX.2.1 rfl
    have fz2 : ∀ j, W4.frozen? ⟨w.heap.size + 1, j, none⟩ = false := fun j => free_of_block tX.2.1
    obtain ⟨W5, hW5⟩ : ∃ W5, setHd W4 (w.heap.size + 1) m = W5 := ⟨_, rfl⟩
    have b5 : W5.heap[w.heap.size + 1]? = some (.cells m.cells 59 (0, 0)) := by rw [← hW5]; exact setHd_block tX.2.1 _
    have r0 : W5.cell? ⟨w.heap.size + 1, 0, none⟩ = some (.int .i64 (m.life : Int)) := bcell b5 rfl
    have r1 : W5.cell? ⟨w.heap.size + 1, 1, none⟩ = some (.int .i64 (m.top : Int)) := bcell b5 rfl
    have r2 : W5.cell? ⟨w.heap.size + 1, 2, none⟩ = some (.int .u64 (m.w0 : Int)) := bcell b5 rfl
    have r3 : W5.cell? ⟨w.heap.size + 1, 3, none⟩ = some (.int .u64 (m.w1 : Int)) := bcell b5 rfl
    have r4 : W5.cell? ⟨w.heap.size + 1, 4, none⟩ = some (.int .u64 (m.w2 : Int)) := bcell b5 rfl
    have r5 : W5.cell? ⟨w.heap.size + 1, 5, none⟩ = some (.int .u64 (m.w3 : Int)) := bcell b5 rfl
    have BB : Hid (Below w.heap.size w W5) := by rw [← hW5]; exact tX.2.2.trans (setHd_below (by omega) _)
    have HW3 := hide hW3
    have HW4 := hide hW4
    have HW5 := hide hW5
    clear x1 x2 bW1 hr rok hW3 tW hwl hzl hq ST hk hz hm hW4 tX hW5 b5 b1 RC V1 V2 BV HC
    go_upto_region 4 with fail
    change Code.wp _ _ _ _ (setHd w1 w.heap.size r)
    rw [unhide HW3]
    clear HW3 y0 y1 y2 y3 y4 y5 fz1
    go_region_with (first
      | (go_at_call 26; refine (unhide SW _).mono ?_; rintro e x ⟨rfl, rfl⟩)
      | (go_at_call 27; refine (unhide SB _).mono ?_; rintro e x ⟨rfl, rfl⟩))
    all_goals (
      change Exit.then _ _ _ _ (W3.setCell ⟨w.heap.size, 2 + k, none⟩ (.int .u64 (bits .or .u64 (q : Int) (z : Int)))).drew
      rw [unhide HW4]
      clear HW4 c2 fz
      go_wp2
      try simp only [Exit.inBlock, Exit.then]
      change bodyPost _ _ _ _ _ (setHd W4 (w.heap.size + 1) m)
      rw [unhide HW5]
      refine bodyPost_ret (v := .agg m.cells) (by simp [results, Try.results21, go_sem, r0, r1, r2, r3, r4, r5, Hd.cells]) rfl ?_
      exact ⟨by rw [unhide HT], unhide BB⟩)
  · have hltI : ¬ (L : Int) < (l : Int) := by omega
    obtain rfl : g = h := by rw [← hg]; unfold Hd.begun; rw [if_neg (by rw [hL]; exact hlt)]
    have v1 := tW.1
    have v2 := tW.2.1
    have bV := tW.2.2
    rw [hL] at c0
    have V1 := hide v1
    have V2 := hide v2
    have BV := hide bV
    have HC : Hid True := trivial
    clear hW tW hg v1 v2 bV ho hL
    go_enter Try.func21, Try.ntmps21
    go_upto_region 1 with fail
    rw [show (w.alloc (.cells g.cells 59)).alloc (.cells #[.int .i64 0, .int .i64 0, .int .u64 0, .int .u64 0, .int .u64 0, .int .u64 0] 59) = W from unhide HW]
    clear HW
    go_upto_region 3 with fail
    have v1 := unhide V1
    have v2 := unhide V2
    have bV := unhide BV
    clear V1 V2 BV c0
    obtain ⟨V, hV⟩ : ∃ V, V = W := ⟨_, rfl⟩
    subst hV
    have hgo := unhide GO
    have rc := reach_any g n V hgo hn63
    obtain ⟨r, hr⟩ : ∃ r, g.reach n = r := ⟨_, rfl⟩
    rw [hr] at rc
    have RC := hide rc
    clear rc
    have c0 : V.cell? ⟨w.heap.size, 0, none⟩ = some (.int .i64 (g.life : Int)) := bcell v1 rfl
    have c1 : V.cell? ⟨w.heap.size, 1, none⟩ = some (.int .i64 (g.top : Int)) := bcell v1 rfl
    have c2 : V.cell? ⟨w.heap.size, 2, none⟩ = some (.int .u64 (g.w0 : Int)) := bcell v1 rfl
    have c3 : V.cell? ⟨w.heap.size, 3, none⟩ = some (.int .u64 (g.w1 : Int)) := bcell v1 rfl
    have c4 : V.cell? ⟨w.heap.size, 4, none⟩ = some (.int .u64 (g.w2 : Int)) := bcell v1 rfl
    have c5 : V.cell? ⟨w.heap.size, 5, none⟩ = some (.int .u64 (g.w3 : Int)) := bcell v1 rfl
    have hvs : w.heap.size + 1 < V.heap.size := blk_lt' v2
    have V1 := hide v1
    have V2 := hide v2
    have BV := hide bV
    clear v1 v2 bV hgo
    go_wp2_with fail
    refine (unhide RC).mono ?_
    simp only [Hd.cells]
    rintro e w1 ⟨rfl, b1⟩
    have x1 : w1.heap[w.heap.size]? = some (.cells g.cells 59 (0, 0)) := (b1.block _ (by omega)).trans (unhide V1)
    have x2 : w1.heap[w.heap.size + 1]? = some (.cells Hd.none.cells 59 (0, 0)) := (b1.block _ (by omega)).trans (unhide V2)
    have bW1 : Below w.heap.size w w1 := (unhide BV).trans (b1.mono (by omega))
    have rok : r.ok := by rw [← hr]; exact reach_ok (unhide GO) hn63
    have HR := hide hr
    have y0 : w1.cell? ⟨w.heap.size, 0, none⟩ = some (.int .i64 (g.life : Int)) := bcell x1 rfl
    have y1 : w1.cell? ⟨w.heap.size, 1, none⟩ = some (.int .i64 (g.top : Int)) := bcell x1 rfl
    have y2 : w1.cell? ⟨w.heap.size, 2, none⟩ = some (.int .u64 (g.w0 : Int)) := bcell x1 rfl
    have y3 : w1.cell? ⟨w.heap.size, 3, none⟩ = some (.int .u64 (g.w1 : Int)) := bcell x1 rfl
    have y4 : w1.cell? ⟨w.heap.size, 4, none⟩ = some (.int .u64 (g.w2 : Int)) := bcell x1 rfl
    have y5 : w1.cell? ⟨w.heap.size, 5, none⟩ = some (.int .u64 (g.w3 : Int)) := bcell x1 rfl
    have fz1 : ∀ j, w1.frozen? ⟨w.heap.size, j, none⟩ = false := fun j => free_of_block x1
    obtain ⟨W3, hW3⟩ : ∃ W3, setHd w1 w.heap.size r = W3 := ⟨_, rfl⟩
    have tW : Two w.heap.size w W3 r := by
      rw [← hW3]
      exact ⟨setHd_block x1 _, (setHd_other (by omega) _).trans x2, bW1.trans (setHd_below (Nat.le_refl _) _)⟩
    have hwl := word_lt rok (n % 256 / 64)
    have hzl := pow_lt n
    have c2 : W3.cell? ⟨w.heap.size, 2 + n % 256 / 64, none⟩ = some (.int .u64 (r.word (n % 256 / 64) : Int)) := bcell tW.1 (cell_word r _ (by omega))
    have fz : W3.frozen? ⟨w.heap.size, 2 + n % 256 / 64, none⟩ = false := free_of_block tW.1
    obtain ⟨q, hq⟩ : ∃ q, r.word (n % 256 / 64) = q := ⟨_, rfl⟩
    have ST := tW.set (n % 256 / 64) (q ||| 2 ^ (n % 64)) (by omega)
    rw [show r.put (n % 256 / 64) (q ||| 2 ^ (n % 64)) = r.mark n by rw [← hq]; rfl] at ST
    rw [hq] at c2 hwl
    rw [← u64_or_nat q _ hwl hzl] at ST
    have SW := hide (fun w => word_any n w hn63)
    have SB := hide (fun w => bit_any n w hn63)
    obtain ⟨k, hk⟩ : ∃ k, n % 256 / 64 = k := ⟨_, rfl⟩
    obtain ⟨z, hz⟩ : ∃ z, 2 ^ (n % 64) = z := ⟨_, rfl⟩
    have hk4 : (k : Int) < 4 := by omega
    rw [hk] at c2 fz ST SW
    rw [hz] at ST SB hzl
    obtain ⟨m, hm⟩ : ∃ m, r.mark n = m := ⟨_, rfl⟩
    rw [hm] at ST
    have HT : Hid (g.taking l n = m) := by show ((g.begun l).reach n).mark n = m; rw [unhide HG, hr, hm]
    obtain ⟨W4, hW4⟩ : ∃ W4, (W3.setCell ⟨w.heap.size, 2 + k, none⟩ (.int .u64 (bits .or .u64 (q : Int) (z : Int)))).drew = W4 := ⟨_, rfl⟩
    have tX : Two w.heap.size w W4 m := by rw [← hW4]; exact ST.drew
    have d0 : W4.cell? ⟨w.heap.size, 0, none⟩ = some (.int .i64 (m.life : Int)) := bcell tX.1 rfl
    have d1 : W4.cell? ⟨w.heap.size, 1, none⟩ = some (.int .i64 (m.top : Int)) := bcell tX.1 rfl
    have d2 : W4.cell? ⟨w.heap.size, 2, none⟩ = some (.int .u64 (m.w0 : Int)) := bcell tX.1 rfl
    have d3 : W4.cell? ⟨w.heap.size, 3, none⟩ = some (.int .u64 (m.w1 : Int)) := bcell tX.1 rfl
    have d4 : W4.cell? ⟨w.heap.size, 4, none⟩ = some (.int .u64 (m.w2 : Int)) := bcell tX.1 rfl
    have d5 : W4.cell? ⟨w.heap.size, 5, none⟩ = some (.int .u64 (m.w3 : Int)) := bcell tX.1 rfl
    have f0 : W4.cell? ⟨w.heap.size + 1, 0, none⟩ = some (.int .i64 0) := bcell tX.2.1 rfl
    have f1 : W4.cell? ⟨w.heap.size + 1, 1, none⟩ = some (.int .i64 0) := bcell tX.2.1 rfl
    have f2 : W4.cell? ⟨w.heap.size + 1, 2, none⟩ = some (.int .u64 0) := bcell tX.2.1 rfl
    have f3 : W4.cell? ⟨w.heap.size + 1, 3, none⟩ = some (.int .u64 0) := bcell tX.2.1 rfl
    have f4 : W4.cell? ⟨w.heap.size + 1, 4, none⟩ = some (.int .u64 0) := bcell tX.2.1 rfl
    have f5 : W4.cell? ⟨w.heap.size + 1, 5, none⟩ = some (.int .u64 0) := bcell tX.2.1 rfl
    have fz2 : ∀ j, W4.frozen? ⟨w.heap.size + 1, j, none⟩ = false := fun j => free_of_block tX.2.1
    obtain ⟨W5, hW5⟩ : ∃ W5, setHd W4 (w.heap.size + 1) m = W5 := ⟨_, rfl⟩
    have b5 : W5.heap[w.heap.size + 1]? = some (.cells m.cells 59 (0, 0)) := by rw [← hW5]; exact setHd_block tX.2.1 _
    have r0 : W5.cell? ⟨w.heap.size + 1, 0, none⟩ = some (.int .i64 (m.life : Int)) := bcell b5 rfl
    have r1 : W5.cell? ⟨w.heap.size + 1, 1, none⟩ = some (.int .i64 (m.top : Int)) := bcell b5 rfl
    have r2 : W5.cell? ⟨w.heap.size + 1, 2, none⟩ = some (.int .u64 (m.w0 : Int)) := bcell b5 rfl
    have r3 : W5.cell? ⟨w.heap.size + 1, 3, none⟩ = some (.int .u64 (m.w1 : Int)) := bcell b5 rfl
    have r4 : W5.cell? ⟨w.heap.size + 1, 4, none⟩ = some (.int .u64 (m.w2 : Int)) := bcell b5 rfl
    have r5 : W5.cell? ⟨w.heap.size + 1, 5, none⟩ = some (.int .u64 (m.w3 : Int)) := bcell b5 rfl
    have BB : Hid (Below w.heap.size w W5) := by rw [← hW5]; exact tX.2.2.trans (setHd_below (by omega) _)
    have HW3 := hide hW3
    have HW4 := hide hW4
    have HW5 := hide hW5
    clear x1 x2 bW1 hr rok hW3 tW hwl hzl hq ST hk hz hm hW4 tX hW5 b5 b1 RC V1 V2 BV HC
    go_upto_region 4 with fail
    change Code.wp _ _ _ _ (setHd w1 w.heap.size r)
    rw [unhide HW3]
    clear HW3 y0 y1 y2 y3 y4 y5 fz1
    go_region_with (first
      | (go_at_call 26; refine (unhide SW _).mono ?_; rintro e x ⟨rfl, rfl⟩)
      | (go_at_call 27; refine (unhide SB _).mono ?_; rintro e x ⟨rfl, rfl⟩))
    all_goals (
      change Exit.then _ _ _ _ (W3.setCell ⟨w.heap.size, 2 + k, none⟩ (.int .u64 (bits .or .u64 (q : Int) (z : Int)))).drew
      rw [unhide HW4]
      clear HW4 c2 fz
      go_wp2
      try simp only [Exit.inBlock, Exit.then]
      change bodyPost _ _ _ _ _ (setHd W4 (w.heap.size + 1) m)
      rw [unhide HW5]
      refine bodyPost_ret (v := .agg m.cells) (by simp [results, Try.results21, go_sem, r0, r1, r2, r3, r4, r5, Hd.cells]) rfl ?_
      exact ⟨by rw [unhide HT], unhide BB⟩)
end Go.Proofs.Ytkanolmcaoecgaa

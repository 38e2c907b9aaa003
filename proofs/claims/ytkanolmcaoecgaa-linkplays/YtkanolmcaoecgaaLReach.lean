/- link's reach: a contract. -/
import Derived.Test.YtkanolmcaoecgaaLBit
import Derived.Deep.RegionWith
import Derived.Deep.OwnRows
namespace Go.Proofs.Ytkanolmcaoecgaa
open Go.RowKit

theorem setCell_block {w : World} {p i : Nat} {u : Value} {cs : Array Value} {t : TypeId} {fr : Nat × Nat} (h : w.heap[p]? = some (.cells cs t fr)) :
    (w.setCell ⟨p, i, none⟩ u).heap[p]? = some (.cells (cs.setIfInBounds i u) t fr) := by
  simp [World.setCell, Array.getElem?_modify, h]
theorem free_of_block {w : World} {p i : Nat} {cs : Array Value} {t : TypeId} (h : w.heap[p]? = some (.cells cs t (0, 0))) : w.frozen? ⟨p, i, none⟩ = false := by
  simp [World.frozen?, h]
theorem setCell_size (w : World) (a : Addr) (u : Value) : (w.setCell a u).heap.size = w.heap.size := by simp [World.setCell]
theorem blk_lt' {w : World} {p : Nat} {o : Obj} (h : w.heap[p]? = some o) : p < w.heap.size := by
  by_cases hp : p < w.heap.size
  · exact hp
  · rw [Array.getElem?_eq_none (by omega)] at h; cases h

/-- two boxes of the call's own: what is turned, and the answer's place. -/
def Two (B : Nat) (w wr : World) (g : Hd) : Prop := wr.heap[B]? = some (.cells g.cells 59 (0, 0)) ∧ wr.heap[B + 1]? = some (.cells Hd.none.cells 59 (0, 0)) ∧ Below B w wr
theorem Two.set {B : Nat} {w wr : World} {g : Hd} (h : Two B w wr g) (k v : Nat) (hk : k < 4) : Two B w (wr.setCell ⟨B, 2 + k, none⟩ (.int .u64 (v : Int))) (g.put k v) := by
  obtain ⟨h1, h2, h3⟩ := h
  refine ⟨?_, ?_, h3.setCell (p := ⟨B, 2 + k, none⟩) (Nat.le_refl _) _⟩
  · rw [setCell_block h1, cells_put _ _ _ hk]
  · rw [Below.heap_setCell wr ⟨B, 2 + k, none⟩ _ (B + 1) (by simp)]; exact h2

theorem Two.drew {B : Nat} {w wr : World} {g : Hd} (h : Two B w wr g) : Two B w wr.drew g := ⟨h.1, h.2.1, h.2.2.drew⟩
/-- what was heard, stored cell by cell. -/
def setHd (w : World) (p : Nat) (g : Hd) : World := (((((w.setCell ⟨p, 0, none⟩ (.int .i64 (g.life : Int))).setCell ⟨p, 1, none⟩ (.int .i64 (g.top : Int))).setCell ⟨p, 2, none⟩ (.int .u64 (g.w0 : Int))).setCell ⟨p, 3, none⟩ (.int .u64 (g.w1 : Int))).setCell ⟨p, 4, none⟩ (.int .u64 (g.w2 : Int))).setCell ⟨p, 5, none⟩ (.int .u64 (g.w3 : Int))
theorem setHd_block {w : World} {p : Nat} {g' : Hd} {t : TypeId} {fr : Nat × Nat} (h : w.heap[p]? = some (.cells g'.cells t fr)) (g : Hd) : (setHd w p g).heap[p]? = some (.cells g.cells t fr) := by
  unfold setHd
  rw [setCell_block (setCell_block (setCell_block (setCell_block (setCell_block (setCell_block h)))))]; rfl
theorem setHd_below {w : World} {p base : Nat} (hb : base ≤ p) (g : Hd) : Below base w (setHd w p g) := by
  unfold setHd
  refine (((((Below.refl base w).setCell (p := ⟨p, 0, none⟩) hb _).setCell (p := ⟨p, 1, none⟩) hb _).setCell (p := ⟨p, 2, none⟩) hb _).setCell (p := ⟨p, 3, none⟩) hb _).setCell (p := ⟨p, 4, none⟩) hb _ |>.setCell (p := ⟨p, 5, none⟩) hb _
theorem setHd_other {w : World} {p k : Nat} (hk : k ≠ p) (g : Hd) : (setHd w p g).heap[k]? = w.heap[k]? := by
  unfold setHd
  rw [Below.heap_setCell _ ⟨p, 5, none⟩ _ k hk, Below.heap_setCell _ ⟨p, 4, none⟩ _ k hk, Below.heap_setCell _ ⟨p, 3, none⟩ _ k hk, Below.heap_setCell _ ⟨p, 2, none⟩ _ k hk, Below.heap_setCell _ ⟨p, 1, none⟩ _ k hk, Below.heap_setCell _ ⟨p, 0, none⟩ _ k hk]

set_option maxHeartbeats 2000000 in
set_option maxRecDepth 20000 in
theorem reach_any (h : Hd) (n : Nat) (w : World) (ho : h.ok) (hn : n < 9223372036854775808) :
    Calls Try.prog 25 #[.agg h.cells, .int .i64 (n : Int)] w fun e w' => e = .returned (.agg (h.reach n).cells) ∧ Below w.heap.size w w' := by
  obtain ⟨W, hW⟩ : ∃ W, (w.alloc (.cells h.cells 59)).alloc (.cells Hd.none.cells 59) = W := ⟨_, rfl⟩
  have tW : Two w.heap.size w W h := by
    rw [← hW]
    have e1 : (w.alloc (.cells h.cells 59)).heap.size = w.heap.size + 1 := by rw [World.size_alloc]
    refine ⟨?_, ?_, ((Below.refl _ w).alloc (Nat.le_refl _) _).alloc (by rw [e1]; omega) _⟩
    · rw [Below.heap_alloc _ _ _ (by rw [e1]; omega)]; exact heap_alloc_new _ _
    · rw [← e1]; exact heap_alloc_new _ _
  have c1 : W.cell? ⟨w.heap.size, 1, none⟩ = some (.int .i64 (h.top : Int)) := bcell tW.1 rfl
  have ht := ho.2.1
  obtain ⟨T, hT⟩ : ∃ T, h.top = T := ⟨_, rfl⟩
  rw [hT] at c1 ht
  have HW := hide hW
  have TW := hide tW
  have HT := hide hT
  have HO := hide ho
  clear hW tW hT ho
  by_cases hTn : T < n
  · obtain ⟨d, hd⟩ : ∃ d, n = T + d := ⟨n - T, by omega⟩
    have wr64 : IntKind.i64.wrap ((n : Int) - (T : Int)) = (d : Int) := by
      simp only [IntKind.wrap, IntKind.bits, IntKind.signed]
      simp
      omega
    have nd : (n : Int) - (T : Int) = (d : Int) := by omega
    have HD := hide hd
    by_cases h256 : d ≤ 256
    · have HF : Hid (h.reach n = { h.clears n d with top := n }) := by
        show _ = _
        unfold Hd.reach
        rw [unhide HT, show min (n - T) 256 = d by omega, show max T n = n by omega]
      have hdi : (d : Int) ≤ 256 := by omega
      clear hd
      go_enter Try.func25, Try.ntmps25
      go_upto_region 1 with fail
      rw [show (w.alloc (.cells h.cells 59)).alloc (.cells #[.int .i64 0, .int .i64 0, .int .u64 0, .int .u64 0, .int .u64 0, .int .u64 0] 59) = W from unhide HW]
      clear HW
      go_upto_region 2 with fail
      go_loopg [11] d (fun gg iv wr => ∃ i : Nat, i + gg = d ∧ iv = .int .i64 (i : Int) ∧ Two w.heap.size w wr (h.clears n i))
      case atStart => exact ⟨0, by omega, rfl, unhide TW⟩
      case round =>
        obtain ⟨i, hgk, rfl, htwo⟩ := hrel
        clear wr64 nd c1
        by_cases hlt : i < d
        · obtain ⟨m, hm⟩ : ∃ m, m = n - i := ⟨_, rfl⟩
          have hmi : (n : Int) - (i : Int) = (m : Int) := by have := unhide HD; omega
          have hm63 : m < 9223372036854775808 := by omega
          have wrm : IntKind.i64.wrap (m : Int) = (m : Int) := by
            simp only [IntKind.wrap, IntKind.bits, IntKind.signed]
            simp
            omega
          have gok := clears_ok (unhide HO) n i
          obtain ⟨g, hg⟩ : ∃ g, h.clears n i = g := ⟨_, rfl⟩
          have HN : Hid (h.clears n (i + 1) = g.clear m) := by rw [← hg, hm]; rfl
          rw [hg] at htwo gok
          have hwl := word_lt gok (m % 256 / 64)
          have hzl := pow_lt m
          have c2 : wr.cell? ⟨w.heap.size, 2 + m % 256 / 64, none⟩ = some (.int .u64 (g.word (m % 256 / 64) : Int)) := bcell htwo.1 (cell_word g _ (by omega))
          have fz : wr.frozen? ⟨w.heap.size, 2 + m % 256 / 64, none⟩ = false := free_of_block htwo.1
          obtain ⟨q, hq⟩ : ∃ q, g.word (m % 256 / 64) = q := ⟨_, rfl⟩
          have ST := htwo.set (m % 256 / 64) (q &&& (18446744073709551615 - 2 ^ (m % 64))) (by omega)
          rw [show g.put (m % 256 / 64) (q &&& (18446744073709551615 - 2 ^ (m % 64))) = g.clear m by rw [← hq]; rfl, ← unhide HN] at ST
          rw [hq] at c2 hwl
          rw [← u64_andNot_nat q _ hwl hzl] at ST
          have SW := hide (fun w => word_any m w hm63)
          have SB := hide (fun w => bit_any m w hm63)
          obtain ⟨k, hk⟩ : ∃ k, m % 256 / 64 = k := ⟨_, rfl⟩
          obtain ⟨z, hz⟩ : ∃ z, 2 ^ (m % 64) = z := ⟨_, rfl⟩
          have hk4 : (k : Int) < 4 := by omega
          rw [hk] at c2 fz ST SW
          rw [hz] at ST SB hzl
          have HS := hide ST
          have HG := hide hgk
          have hmz : m = m := rfl
          clear htwo gok hg ST hq hk hz hm HN hwl hzl hgk TW HF hmz
          go_upto_region 4 with fail
          go_region_with (first
            | (go_at_call 26; refine (unhide SW _).mono ?_; rintro e x ⟨rfl, rfl⟩)
            | (go_at_call 27; refine (unhide SB _).mono ?_; rintro e x ⟨rfl, rfl⟩))
          all_goals go_wp2
          all_goals go_roundg (d - (i + 1))
          all_goals first | (have := unhide HG; omega) | exact ⟨i + 1, by omega, by go_num, (unhide HS).drew⟩
        · have hi : i = d := by omega
          rw [hi] at htwo ⊢
          clear hi hlt hgk
          have htop : (h.clears n d).top = T := (clears_top h n _).trans (unhide HT)
          obtain ⟨G, hG⟩ : ∃ G, h.clears n d = G := ⟨_, rfl⟩
          rw [hG] at htwo htop
          have e1 : wr.cell? ⟨w.heap.size, 1, none⟩ = some (.int .i64 (T : Int)) := by rw [← htop]; exact bcell htwo.1 rfl
          have f1 : wr.frozen? ⟨w.heap.size, 1, none⟩ = false := free_of_block htwo.1
          have z1 := htwo.2.1
          obtain ⟨W1, hW1⟩ : ∃ W1, wr.setCell ⟨w.heap.size, 1, none⟩ (.int .i64 (n : Int)) = W1 := ⟨_, rfl⟩
          have b1 : W1.heap[w.heap.size]? = some (.cells ({ G with top := n } : Hd).cells 59 (0, 0)) := by rw [← hW1, setCell_block htwo.1]; rfl
          have b2 : W1.heap[w.heap.size + 1]? = some (.cells Hd.none.cells 59 (0, 0)) := by rw [← hW1, Below.heap_setCell wr ⟨w.heap.size, 1, none⟩ _ (w.heap.size + 1) (by simp)]; exact z1
          have bb : Below w.heap.size w W1 := by rw [← hW1]; exact htwo.2.2.setCell (p := ⟨w.heap.size, 1, none⟩) (Nat.le_refl _) _
          have HR : Hid (h.reach n = { G with top := n }) := by rw [← hG]; exact unhide HF
          have l0 : W1.cell? ⟨w.heap.size, 0, none⟩ = some (.int .i64 (G.life : Int)) := bcell b1 rfl
          have l1 : W1.cell? ⟨w.heap.size, 1, none⟩ = some (.int .i64 (n : Int)) := bcell b1 rfl
          have l2 : W1.cell? ⟨w.heap.size, 2, none⟩ = some (.int .u64 (G.w0 : Int)) := bcell b1 rfl
          have l3 : W1.cell? ⟨w.heap.size, 3, none⟩ = some (.int .u64 (G.w1 : Int)) := bcell b1 rfl
          have l4 : W1.cell? ⟨w.heap.size, 4, none⟩ = some (.int .u64 (G.w2 : Int)) := bcell b1 rfl
          have l5 : W1.cell? ⟨w.heap.size, 5, none⟩ = some (.int .u64 (G.w3 : Int)) := bcell b1 rfl
          have m0 : W1.cell? ⟨w.heap.size + 1, 0, none⟩ = some (.int .i64 0) := bcell b2 rfl
          have m1 : W1.cell? ⟨w.heap.size + 1, 1, none⟩ = some (.int .i64 0) := bcell b2 rfl
          have m2 : W1.cell? ⟨w.heap.size + 1, 2, none⟩ = some (.int .u64 0) := bcell b2 rfl
          have m3 : W1.cell? ⟨w.heap.size + 1, 3, none⟩ = some (.int .u64 0) := bcell b2 rfl
          have m4 : W1.cell? ⟨w.heap.size + 1, 4, none⟩ = some (.int .u64 0) := bcell b2 rfl
          have m5 : W1.cell? ⟨w.heap.size + 1, 5, none⟩ = some (.int .u64 0) := bcell b2 rfl
          have g0 : ∀ j, W1.frozen? ⟨w.heap.size + 1, j, none⟩ = false := fun j => free_of_block b2
          obtain ⟨W2, hW2⟩ : ∃ W2, setHd W1 (w.heap.size + 1) { G with top := n } = W2 := ⟨_, rfl⟩
          have b3 : W2.heap[w.heap.size + 1]? = some (.cells ({ G with top := n } : Hd).cells 59 (0, 0)) := by rw [← hW2]; exact setHd_block b2 _
          have r0 : W2.cell? ⟨w.heap.size + 1, 0, none⟩ = some (.int .i64 (G.life : Int)) := bcell b3 rfl
          have r1 : W2.cell? ⟨w.heap.size + 1, 1, none⟩ = some (.int .i64 (n : Int)) := bcell b3 rfl
          have r2 : W2.cell? ⟨w.heap.size + 1, 2, none⟩ = some (.int .u64 (G.w0 : Int)) := bcell b3 rfl
          have r3 : W2.cell? ⟨w.heap.size + 1, 3, none⟩ = some (.int .u64 (G.w1 : Int)) := bcell b3 rfl
          have r4 : W2.cell? ⟨w.heap.size + 1, 4, none⟩ = some (.int .u64 (G.w2 : Int)) := bcell b3 rfl
          have r5 : W2.cell? ⟨w.heap.size + 1, 5, none⟩ = some (.int .u64 (G.w3 : Int)) := bcell b3 rfl
          have BB : Hid (Below w.heap.size w W2) := by rw [← hW2]; exact bb.trans (setHd_below (by omega) _)
          have HW1 := hide hW1
          have HW2 := hide hW2
          clear htwo hG htop b1 b2 b3 bb hW1 hW2 z1 HF TW
          go_upto_region 7 with fail
          rw [unhide HW1]
          clear HW1 e1 f1
          go_wp2
          try simp only [Exit.inBlock, Exit.then]
          change bodyPost _ _ _ _ _ (setHd W1 (w.heap.size + 1) { G with top := n })
          rw [unhide HW2]
          refine bodyPost_ret (v := .agg ({ G with top := n } : Hd).cells) (by simp [results, Try.results25, go_sem, r0, r1, r2, r3, r4, r5, Hd.cells]) rfl ?_
          exact ⟨by rw [unhide HR], unhide BB⟩
    · have HF : Hid (h.reach n = { h.clears n 256 with top := n }) := by
        show _ = _
        unfold Hd.reach
        rw [unhide HT, show min (n - T) 256 = 256 by omega, show max T n = n by omega]
      have hdi : ¬ (d : Int) ≤ 256 := by omega
      clear hd
      go_enter Try.func25, Try.ntmps25
      go_upto_region 1 with fail
      rw [show (w.alloc (.cells h.cells 59)).alloc (.cells #[.int .i64 0, .int .i64 0, .int .u64 0, .int .u64 0, .int .u64 0, .int .u64 0] 59) = W from unhide HW]
      clear HW
      go_upto_region 2 with fail
      go_loopg [11] 256 (fun gg iv wr => ∃ i : Nat, i + gg = 256 ∧ iv = .int .i64 (i : Int) ∧ Two w.heap.size w wr (h.clears n i))
      case atStart => exact ⟨0, by omega, rfl, unhide TW⟩
      case round =>
        obtain ⟨i, hgk, rfl, htwo⟩ := hrel
        clear wr64 nd c1
        by_cases hlt : i < 256
        · obtain ⟨m, hm⟩ : ∃ m, m = n - i := ⟨_, rfl⟩
          have hmi : (n : Int) - (i : Int) = (m : Int) := by have := unhide HD; omega
          have hm63 : m < 9223372036854775808 := by omega
          have wrm : IntKind.i64.wrap (m : Int) = (m : Int) := by
            simp only [IntKind.wrap, IntKind.bits, IntKind.signed]
            simp
            omega
          have gok := clears_ok (unhide HO) n i
          obtain ⟨g, hg⟩ : ∃ g, h.clears n i = g := ⟨_, rfl⟩
          have HN : Hid (h.clears n (i + 1) = g.clear m) := by rw [← hg, hm]; rfl
          rw [hg] at htwo gok
          have hwl := word_lt gok (m % 256 / 64)
          have hzl := pow_lt m
          have c2 : wr.cell? ⟨w.heap.size, 2 + m % 256 / 64, none⟩ = some (.int .u64 (g.word (m % 256 / 64) : Int)) := bcell htwo.1 (cell_word g _ (by omega))
          have fz : wr.frozen? ⟨w.heap.size, 2 + m % 256 / 64, none⟩ = false := free_of_block htwo.1
          obtain ⟨q, hq⟩ : ∃ q, g.word (m % 256 / 64) = q := ⟨_, rfl⟩
          have ST := htwo.set (m % 256 / 64) (q &&& (18446744073709551615 - 2 ^ (m % 64))) (by omega)
          rw [show g.put (m % 256 / 64) (q &&& (18446744073709551615 - 2 ^ (m % 64))) = g.clear m by rw [← hq]; rfl, ← unhide HN] at ST
          rw [hq] at c2 hwl
          rw [← u64_andNot_nat q _ hwl hzl] at ST
          have SW := hide (fun w => word_any m w hm63)
          have SB := hide (fun w => bit_any m w hm63)
          obtain ⟨k, hk⟩ : ∃ k, m % 256 / 64 = k := ⟨_, rfl⟩
          obtain ⟨z, hz⟩ : ∃ z, 2 ^ (m % 64) = z := ⟨_, rfl⟩
          have hk4 : (k : Int) < 4 := by omega
          rw [hk] at c2 fz ST SW
          rw [hz] at ST SB hzl
          have HS := hide ST
          have HG := hide hgk
          have hmz : m = m := rfl
          clear htwo gok hg ST hq hk hz hm HN hwl hzl hgk TW HF hmz
          go_upto_region 4 with fail
          go_region_with (first
            | (go_at_call 26; refine (unhide SW _).mono ?_; rintro e x ⟨rfl, rfl⟩)
            | (go_at_call 27; refine (unhide SB _).mono ?_; rintro e x ⟨rfl, rfl⟩))
          all_goals go_wp2
          all_goals go_roundg (256 - (i + 1))
          all_goals first | (have := unhide HG; omega) | exact ⟨i + 1, by omega, by go_num, (unhide HS).drew⟩
        · have hi : i = 256 := by omega
          rw [hi] at htwo ⊢
          clear hi hlt hgk
          have htop : (h.clears n 256).top = T := (clears_top h n _).trans (unhide HT)
          obtain ⟨G, hG⟩ : ∃ G, h.clears n 256 = G := ⟨_, rfl⟩
          rw [hG] at htwo htop
          have e1 : wr.cell? ⟨w.heap.size, 1, none⟩ = some (.int .i64 (T : Int)) := by rw [← htop]; exact bcell htwo.1 rfl
          have f1 : wr.frozen? ⟨w.heap.size, 1, none⟩ = false := free_of_block htwo.1
          have z1 := htwo.2.1
          obtain ⟨W1, hW1⟩ : ∃ W1, wr.setCell ⟨w.heap.size, 1, none⟩ (.int .i64 (n : Int)) = W1 := ⟨_, rfl⟩
          have b1 : W1.heap[w.heap.size]? = some (.cells ({ G with top := n } : Hd).cells 59 (0, 0)) := by rw [← hW1, setCell_block htwo.1]; rfl
          have b2 : W1.heap[w.heap.size + 1]? = some (.cells Hd.none.cells 59 (0, 0)) := by rw [← hW1, Below.heap_setCell wr ⟨w.heap.size, 1, none⟩ _ (w.heap.size + 1) (by simp)]; exact z1
          have bb : Below w.heap.size w W1 := by rw [← hW1]; exact htwo.2.2.setCell (p := ⟨w.heap.size, 1, none⟩) (Nat.le_refl _) _
          have HR : Hid (h.reach n = { G with top := n }) := by rw [← hG]; exact unhide HF
          have l0 : W1.cell? ⟨w.heap.size, 0, none⟩ = some (.int .i64 (G.life : Int)) := bcell b1 rfl
          have l1 : W1.cell? ⟨w.heap.size, 1, none⟩ = some (.int .i64 (n : Int)) := bcell b1 rfl
          have l2 : W1.cell? ⟨w.heap.size, 2, none⟩ = some (.int .u64 (G.w0 : Int)) := bcell b1 rfl
          have l3 : W1.cell? ⟨w.heap.size, 3, none⟩ = some (.int .u64 (G.w1 : Int)) := bcell b1 rfl
          have l4 : W1.cell? ⟨w.heap.size, 4, none⟩ = some (.int .u64 (G.w2 : Int)) := bcell b1 rfl
          have l5 : W1.cell? ⟨w.heap.size, 5, none⟩ = some (.int .u64 (G.w3 : Int)) := bcell b1 rfl
          have m0 : W1.cell? ⟨w.heap.size + 1, 0, none⟩ = some (.int .i64 0) := bcell b2 rfl
          have m1 : W1.cell? ⟨w.heap.size + 1, 1, none⟩ = some (.int .i64 0) := bcell b2 rfl
          have m2 : W1.cell? ⟨w.heap.size + 1, 2, none⟩ = some (.int .u64 0) := bcell b2 rfl
          have m3 : W1.cell? ⟨w.heap.size + 1, 3, none⟩ = some (.int .u64 0) := bcell b2 rfl
          have m4 : W1.cell? ⟨w.heap.size + 1, 4, none⟩ = some (.int .u64 0) := bcell b2 rfl
          have m5 : W1.cell? ⟨w.heap.size + 1, 5, none⟩ = some (.int .u64 0) := bcell b2 rfl
          have g0 : ∀ j, W1.frozen? ⟨w.heap.size + 1, j, none⟩ = false := fun j => free_of_block b2
          obtain ⟨W2, hW2⟩ : ∃ W2, setHd W1 (w.heap.size + 1) { G with top := n } = W2 := ⟨_, rfl⟩
          have b3 : W2.heap[w.heap.size + 1]? = some (.cells ({ G with top := n } : Hd).cells 59 (0, 0)) := by rw [← hW2]; exact setHd_block b2 _
          have r0 : W2.cell? ⟨w.heap.size + 1, 0, none⟩ = some (.int .i64 (G.life : Int)) := bcell b3 rfl
          have r1 : W2.cell? ⟨w.heap.size + 1, 1, none⟩ = some (.int .i64 (n : Int)) := bcell b3 rfl
          have r2 : W2.cell? ⟨w.heap.size + 1, 2, none⟩ = some (.int .u64 (G.w0 : Int)) := bcell b3 rfl
          have r3 : W2.cell? ⟨w.heap.size + 1, 3, none⟩ = some (.int .u64 (G.w1 : Int)) := bcell b3 rfl
          have r4 : W2.cell? ⟨w.heap.size + 1, 4, none⟩ = some (.int .u64 (G.w2 : Int)) := bcell b3 rfl
          have r5 : W2.cell? ⟨w.heap.size + 1, 5, none⟩ = some (.int .u64 (G.w3 : Int)) := bcell b3 rfl
          have BB : Hid (Below w.heap.size w W2) := by rw [← hW2]; exact bb.trans (setHd_below (by omega) _)
          have HW1 := hide hW1
          have HW2 := hide hW2
          clear htwo hG htop b1 b2 b3 bb hW1 hW2 z1 HF TW
          go_upto_region 7 with fail
          rw [unhide HW1]
          clear HW1 e1 f1
          go_wp2
          try simp only [Exit.inBlock, Exit.then]
          change bodyPost _ _ _ _ _ (setHd W1 (w.heap.size + 1) { G with top := n })
          rw [unhide HW2]
          refine bodyPost_ret (v := .agg ({ G with top := n } : Hd).cells) (by simp [results, Try.results25, go_sem, r0, r1, r2, r3, r4, r5, Hd.cells]) rfl ?_
          exact ⟨by rw [unhide HR], unhide BB⟩
  · have wr64 : IntKind.i64.wrap ((n : Int) - (T : Int)) = (n : Int) - (T : Int) := by
      simp only [IntKind.wrap, IntKind.bits, IntKind.signed]
      simp
      omega
    have nd : ¬ (256 : Int) < (n : Int) - (T : Int) := by omega
    have nd2 : ¬ (0 : Int) < (n : Int) - (T : Int) := by omega
    have HF : Hid (h.reach n = { h.clears n 0 with top := T }) := by
      show _ = _
      unfold Hd.reach
      rw [unhide HT, show min (n - T) 256 = 0 by omega, show max T n = T by omega]
    go_enter Try.func25, Try.ntmps25
    go_upto_region 1 with fail
    rw [show (w.alloc (.cells h.cells 59)).alloc (.cells #[.int .i64 0, .int .i64 0, .int .u64 0, .int .u64 0, .int .u64 0, .int .u64 0] 59) = W from unhide HW]
    clear HW
    go_upto_region 2 with fail
    go_loopg [11] 0 (fun gg iv wr => ∃ i : Nat, i + gg = 0 ∧ iv = .int .i64 (i : Int) ∧ Two w.heap.size w wr (h.clears n i))
    case atStart => exact ⟨0, by omega, rfl, unhide TW⟩
    case round =>
      obtain ⟨i, hgk, rfl, htwo⟩ := hrel
      clear wr64 nd c1
      have hi : i = 0 := by omega
      rw [hi] at htwo ⊢
      clear hi hgk
      have htop : (h.clears n 0).top = T := (clears_top h n _).trans (unhide HT)
      obtain ⟨G, hG⟩ : ∃ G, h.clears n 0 = G := ⟨_, rfl⟩
      rw [hG] at htwo htop
      have e1 : wr.cell? ⟨w.heap.size, 1, none⟩ = some (.int .i64 (T : Int)) := by rw [← htop]; exact bcell htwo.1 rfl
      have f1 : wr.frozen? ⟨w.heap.size, 1, none⟩ = false := free_of_block htwo.1
      have z1 := htwo.2.1
      obtain ⟨W1, hW1⟩ : ∃ W1, wr.setCell ⟨w.heap.size, 1, none⟩ (.int .i64 (T : Int)) = W1 := ⟨_, rfl⟩
      have b1 : W1.heap[w.heap.size]? = some (.cells ({ G with top := T } : Hd).cells 59 (0, 0)) := by rw [← hW1, setCell_block htwo.1]; rfl
      have b2 : W1.heap[w.heap.size + 1]? = some (.cells Hd.none.cells 59 (0, 0)) := by rw [← hW1, Below.heap_setCell wr ⟨w.heap.size, 1, none⟩ _ (w.heap.size + 1) (by simp)]; exact z1
      have bb : Below w.heap.size w W1 := by rw [← hW1]; exact htwo.2.2.setCell (p := ⟨w.heap.size, 1, none⟩) (Nat.le_refl _) _
      have HR : Hid (h.reach n = { G with top := T }) := by rw [← hG]; exact unhide HF
      have l0 : W1.cell? ⟨w.heap.size, 0, none⟩ = some (.int .i64 (G.life : Int)) := bcell b1 rfl
      have l1 : W1.cell? ⟨w.heap.size, 1, none⟩ = some (.int .i64 (T : Int)) := bcell b1 rfl
      have l2 : W1.cell? ⟨w.heap.size, 2, none⟩ = some (.int .u64 (G.w0 : Int)) := bcell b1 rfl
      have l3 : W1.cell? ⟨w.heap.size, 3, none⟩ = some (.int .u64 (G.w1 : Int)) := bcell b1 rfl
      have l4 : W1.cell? ⟨w.heap.size, 4, none⟩ = some (.int .u64 (G.w2 : Int)) := bcell b1 rfl
      have l5 : W1.cell? ⟨w.heap.size, 5, none⟩ = some (.int .u64 (G.w3 : Int)) := bcell b1 rfl
      have m0 : W1.cell? ⟨w.heap.size + 1, 0, none⟩ = some (.int .i64 0) := bcell b2 rfl
      have m1 : W1.cell? ⟨w.heap.size + 1, 1, none⟩ = some (.int .i64 0) := bcell b2 rfl
      have m2 : W1.cell? ⟨w.heap.size + 1, 2, none⟩ = some (.int .u64 0) := bcell b2 rfl
      have m3 : W1.cell? ⟨w.heap.size + 1, 3, none⟩ = some (.int .u64 0) := bcell b2 rfl
      have m4 : W1.cell? ⟨w.heap.size + 1, 4, none⟩ = some (.int .u64 0) := bcell b2 rfl
      have m5 : W1.cell? ⟨w.heap.size + 1, 5, none⟩ = some (.int .u64 0) := bcell b2 rfl
      have g0 : ∀ j, W1.frozen? ⟨w.heap.size + 1, j, none⟩ = false := fun j => free_of_block b2
      obtain ⟨W2, hW2⟩ : ∃ W2, setHd W1 (w.heap.size + 1) { G with top := T } = W2 := ⟨_, rfl⟩
      have b3 : W2.heap[w.heap.size + 1]? = some (.cells ({ G with top := T } : Hd).cells 59 (0, 0)) := by rw [← hW2]; exact setHd_block b2 _
      have r0 : W2.cell? ⟨w.heap.size + 1, 0, none⟩ = some (.int .i64 (G.life : Int)) := bcell b3 rfl
      have r1 : W2.cell? ⟨w.heap.size + 1, 1, none⟩ = some (.int .i64 (T : Int)) := bcell b3 rfl
      have r2 : W2.cell? ⟨w.heap.size + 1, 2, none⟩ = some (.int .u64 (G.w0 : Int)) := bcell b3 rfl
      have r3 : W2.cell? ⟨w.heap.size + 1, 3, none⟩ = some (.int .u64 (G.w1 : Int)) := bcell b3 rfl
      have r4 : W2.cell? ⟨w.heap.size + 1, 4, none⟩ = some (.int .u64 (G.w2 : Int)) := bcell b3 rfl
      have r5 : W2.cell? ⟨w.heap.size + 1, 5, none⟩ = some (.int .u64 (G.w3 : Int)) := bcell b3 rfl
      have BB : Hid (Below w.heap.size w W2) := by rw [← hW2]; exact bb.trans (setHd_below (by omega) _)
      have HW1 := hide hW1
      have HW2 := hide hW2
      clear htwo hG htop b1 b2 b3 bb hW1 hW2 z1 HF TW
      go_upto_region 7 with fail
      rw [unhide HW1]
      clear HW1 e1 f1
      go_wp2
      try simp only [Exit.inBlock, Exit.then]
      change bodyPost _ _ _ _ _ (setHd W1 (w.heap.size + 1) { G with top := T })
      rw [unhide HW2]
      refine bodyPost_ret (v := .agg ({ G with top := T } : Hd).cells) (by simp [results, Try.results25, go_sem, r0, r1, r2, r3, r4, r5, Hd.cells]) rfl ?_
      exact ⟨by rw [unhide HR], unhide BB⟩
end Go.Proofs.Ytkanolmcaoecgaa

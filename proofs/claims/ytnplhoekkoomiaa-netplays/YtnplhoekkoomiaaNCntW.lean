/- NetCounts: its walk. -/
import Derived.Test.YtnplhoekkoomiaaNCutsW
import Derived.Test.YtnplhoekkoomiaaNCallsA
import Derived.Deep.RegionHeldLaw
namespace Go.Proofs.Ytnplhoekkoomiaa
open Go.RowKit Go.Maps

theorem CallsAt.sub {w w' : World} {ao : Option Addr} {n : Nat} (h : CallsAt w ao n) (hb : Below w.heap.size w w') : CallsAt w' ao n := fun i hi => by
  obtain ⟨a, kind, nn, f, t, r, l, cx, ys, e, c0, c1, c2, c3, c4, h1, h2, h3, h4⟩ := h i hi
  exact ⟨a, kind, nn, f, t, r, l, cx, ys, e, by rw [hb.cell (blk_lt c0)]; exact c0, by rw [hb.cell (blk_lt c1)]; exact c1, by rw [hb.cell (blk_lt c2)]; exact c2, by rw [hb.cell (blk_lt c3)]; exact c3, by rw [hb.cell (blk_lt c4)]; exact c4, h1, h2, h3.sub hb, h4⟩
def AllWf (ms : List M) : Prop := ∀ m ∈ ms, M.wf m
theorem AllWf.erase {ms : List M} (h : AllWf ms) (i : Nat) : AllWf (ms.eraseIdx i) := fun m hm => h m (List.mem_of_mem_eraseIdx hm)
theorem AllWf.filter {ms : List M} (h : AllWf ms) (p : M → Bool) : AllWf (ms.filter p) := fun m hm => h m (List.mem_filter.1 hm).1
theorem AllWf.snoc {ms : List M} {m : M} (h : AllWf ms) (hm : m.wf) : AllWf (ms ++ [m]) := fun x hx => by
  rcases List.mem_append.1 hx with h1 | h1
  · exact h x h1
  · simp at h1; subst h1; exact hm
theorem AllWf.more {ms ls : List M} (h : AllWf ms) (hl : AllWf ls) : AllWf (ms ++ ls) := fun x hx => (List.mem_append.1 hx).elim (h x) (hl x)
theorem mod_nat (x : Int) (m : Nat) (hm : 0 < m) : ∃ g : Nat, x % (m : Int) = (g : Int) ∧ g < m := by
  have h1 := Int.emod_nonneg x (show (m : Int) ≠ 0 by omega)
  have h2 := Int.emod_lt_of_pos x (show (0 : Int) < m by omega)
  exact ⟨(x % (m : Int)).toNat, by omega, by omega⟩

set_option maxRecDepth 20000 in
set_option maxHeartbeats 8000000 in
theorem counts_walk (ao : Option Addr) (nc cc : Nat) (W : World) (hnc : nc ≤ maxLen) (hc : CallsAt W ao nc) :
    Calls Try.prog 6 #[.slice ao nc cc] W fun e w' => e = .returned (.bool true) ∧ Below W.heap.size W w' := by
  have HC := hide hc
  have hnc' : nc ≤ 9223372036854775807 := hnc
  clear hc
  go_enter Try.func6, Try.ntmps6
  go_wp2_with fail
  refine (known_any W).mono ?_
  rintro e w ⟨rfl, b0⟩
  have B0 := hide b0
  have s0 := b0.size
  clear b0
  go_wp2_with fail
  refine (new_any w).mono ?_
  rintro e w1 ⟨rfl, n1, b1⟩
  have N1 := hide n1
  have L1 := hide b1
  clear n1 b1
  go_wp2_with fail
  go_loopg [4, 5, 6] 80 (fun gg mv gv iv wr => ∃ (k mk gt lost : Nat) (ms : List M) (bs : List Nat) (side : List Int), k + gg = 80 ∧ k ≤ nc ∧ iv = .int .i64 (k : Int) ∧ mv = .int .i64 (mk : Int) ∧ gv = .int .i64 (gt : Int) ∧ gt + lost + ms.length = mk ∧ mk ≤ k ∧ AllWf ms ∧ Nt w.heap.size wr w.heap.size bs ms side lost ∧ Below w.heap.size w wr)
  case atStart => exact ⟨0, 0, 0, 0, [], [], [], by omega, by omega, rfl, rfl, rfl, rfl, by omega, fun m hm => by simp at hm, unhide N1, unhide L1⟩
  case round =>
    obtain ⟨k, mk, gt, lost, ms, bs, side, hgk, hkn, rfl, rfl, rfl, hsm, hmk, hwf, hnt, hlow⟩ := hrel
    have sr := hlow.size
    by_cases hlt : k < nc ∧ k < 80
    · obtain ⟨a, kind, nn, f, t, r, l, cx, ys, rfl, c0, c1, c2, c3, c4, hyl, hym, hyi, hyf⟩ := (unhide HC) k hlt.1
      have hyW := hyi
      have bR := (unhide B0).trans (hlow.mono s0)
      obtain ⟨blk, off, spot⟩ := a
      have hspot : spot = none := by
        obtain ⟨a0, _, _, _, _, _, _, _, _, e0, hc00, _⟩ := unhide HC 0 (by omega)
        cases e0
        simpa [Addr.add] using World.cell?_spot hc00
      subst hspot
      rw [Addr.add_lit] at c0 c1 c2 c3 c4
      rw [← Nat.add_assoc] at c1 c2 c3 c4
      rw [← bR.cell (blk_lt c0)] at c0
      rw [← bR.cell (blk_lt c1)] at c1
      rw [← bR.cell (blk_lt c2)] at c2
      rw [← bR.cell (blk_lt c3)] at c3
      rw [← bR.cell (blk_lt c4)] at c4
      have hl1 : k < nc := hlt.1
      have hl2 : (k : Int) < 80 := by omega
      have hym' : l ≤ 9223372036854775807 := hym
      obtain ⟨W1, hW1⟩ : ∃ W1, wr.alloc (.cells #[.int .i64 kind, .int .i64 nn, .int .i64 f, .int .i64 t, .slice r l cx] 29) = W1 := ⟨_, rfl⟩
      have bW : Below wr.heap.size wr W1 := by rw [← hW1]; exact (Below.refl _ wr).alloc (Nat.le_refl _) _
      have xW : W1.heap[wr.heap.size]? = some (.cells #[.int .i64 kind, .int .i64 nn, .int .i64 f, .int .i64 t, .slice r l cx] 29 (0, 0)) := by rw [← hW1]; exact heap_alloc_new _ _
      have d0 : W1.cell? ⟨wr.heap.size, 0, none⟩ = some (.int .i64 kind) := (cell_of_block xW).trans rfl
      have d1 : W1.cell? ⟨wr.heap.size, 1, none⟩ = some (.int .i64 nn) := (cell_of_block xW).trans rfl
      have d2 : W1.cell? ⟨wr.heap.size, 2, none⟩ = some (.int .i64 f) := (cell_of_block xW).trans rfl
      have d3 : W1.cell? ⟨wr.heap.size, 3, none⟩ = some (.int .i64 t) := (cell_of_block xW).trans rfl
      have d4 : W1.cell? ⟨wr.heap.size, 4, none⟩ = some (.slice r l cx) := (cell_of_block xW).trans rfl
      have n1 := hnt.below bW
      have l1 := hlow.trans (bW.mono sr)
      have s1 := l1.size
      have HN := hide n1
      have HL := hide l1
      have HWF := hide hwf
      have HG := hide hgk
      have HW1 := hide hW1
      have HYW := hide (fun (w' : World) (ho : Only w.heap.size [53, 55] W1 w') => hyW.sub ((unhide B0).trans (((hlow.trans (bW.mono sr)).trans ho.1).mono s0)))
      have HYF := hide hyf
      have HYL := hide hyl
      have HXW := hide xW
      clear hgk hnt hlow hlt n1 l1 hwf bW hW1 xW N1 L1 hyi hyf hyl bR hyW
      by_cases hbig : 20 < l
      · have hbig' : (20 : Int) < (l : Int) := by omega
        go_upto_region 9 with fail
        rw [unhide HW1]
        clear HW1 c0 c1 c2 c3 c4
        go_wp2
        go_roundg (80 - (k + 1))
        case measure => have := unhide HG; omega
        case rel => exact ⟨k + 1, mk, gt, lost, ms, bs, side, by omega, by omega, by go_num, rfl, rfl, hsm, by omega, unhide HWF, unhide HN, unhide HL⟩
      have hbig' : ¬ (20 : Int) < (l : Int) := by omega
      obtain ⟨g, hg, hg6⟩ := mod_nat kind 6 (by decide)
      have WG := hide (fun w => show Calls Try.prog 9 #[.int .i64 kind, .int .i64 6] w fun ev w' => ev = .returned (.int .i64 (g : Int)) ∧ w' = w by rw [← hg]; exact within_any kind 6 w (by decide) (by decide))
      clear hg
      go_upto_region 9 with fail
      rw [unhide HW1]
      clear HW1 c0 c1 c2 c3 c4
      go_wp2_with fail
      refine (unhide WG W1).mono ?_
      rintro e W2 ⟨rfl, rfl⟩
      clear WG
      have hcases : g = 0 ∨ g = 1 ∨ g = 2 ∨ g = 3 ∨ g = 4 ∨ g = 5 := by omega
      rcases hcases with rfl | rfl | rfl | rfl | rfl | rfl
      · obtain ⟨f', hf, hf5⟩ := mod_nat f 5 (by decide)
        obtain ⟨t', ht, ht5⟩ := mod_nat t 5 (by decide)
        have WF := hide (fun w => show Calls Try.prog 9 #[.int .i64 f, .int .i64 5] w fun ev w' => ev = .returned (.int .i64 (f' : Int)) ∧ w' = w by rw [← hf]; exact within_any f 5 w (by decide) (by decide))
        have WT := hide (fun w => show Calls Try.prog 9 #[.int .i64 t, .int .i64 5] w fun ev w' => ev = .returned (.int .i64 (t' : Int)) ∧ w' = w by rw [← ht]; exact within_any t 5 w (by decide) (by decide))
        have SND := hide (show Calls Try.prog 10 #[.pointer (some ⟨w.heap.size, 0, none⟩), .slice (some ⟨W2.heap.size, 0, none⟩) 1 1] (W2.alloc (.cells #[.int .i64 (f' : Int), .int .i64 (t' : Int), .int .i64 0, .int .i64 1, .int .i64 0, .int .i64 0, .int .i64 0, .int .i64 0, .bool false, .slice none 0 0, .slice none 0 0, .slice none 0 0, .slice none 0 0] 36)).drew _ from send_one (M.mk (f' : Int) (t' : Int) 1 0) W2.drew ((unhide HN).below (Below.refl _ _).drew) ⟨wf_small (by omega), wf_small (by omega)⟩ s1 (by omega) (by omega))
        have D2D : Hid (W2.drew.cell? ⟨wr.heap.size, 2, none⟩ = some (.int .i64 f) ∧ W2.drew.cell? ⟨wr.heap.size, 3, none⟩ = some (.int .i64 t)) := ⟨d2, d3⟩
        have DA : Hid (∀ o, (W2.alloc o).drew.cell? ⟨wr.heap.size, 2, none⟩ = some (.int .i64 f) ∧ (W2.alloc o).drew.cell? ⟨wr.heap.size, 3, none⟩ = some (.int .i64 t)) := fun o => by
          have hb : Below W2.heap.size W2 (W2.alloc o).drew := ((Below.refl _ W2).alloc (Nat.le_refl _) o).drew
          exact ⟨by rw [hb.cell (blk_lt d2)]; exact d2, by rw [hb.cell (blk_lt d3)]; exact d3⟩
        clear hf ht
        go_upto_region 12 with fail
        go_region_held_law (fun x => x.cell? ⟨wr.heap.size, 2, none⟩ = some (.int .i64 f) ∧ x.cell? ⟨wr.heap.size, 3, none⟩ = some (.int .i64 t))
          (first | exact unhide DZ | exact unhide D2D | exact unhide DA _)
          (first
            | (go_at_call_of 9 (Value.int .i64 f); refine (unhide WF _).mono ?_; rintro e x ⟨rfl, rfl⟩)
            | (go_at_call_of 9 (Value.int .i64 t); refine (unhide WT _).mono ?_; rintro e x ⟨rfl, rfl⟩)
            | (go_at_call 10
               refine (unhide SND).mono ?_
               rintro e w3 ⟨rfl, ⟨bs3, n3⟩, o3⟩
               have DZ : Hid (w3.cell? ⟨wr.heap.size, 2, none⟩ = some (.int .i64 f) ∧ w3.cell? ⟨wr.heap.size, 3, none⟩ = some (.int .i64 t)) := ⟨(cell_of_block (o3.block (w := W2.drew) (unhide HXW) (by decide))).trans rfl, (cell_of_block (o3.block (w := W2.drew) (unhide HXW) (by decide))).trans rfl⟩
               have NZ := hide n3
               have LZ := hide ((unhide HL).trans (((Below.refl w.heap.size W2).drew).trans o3.1))
               clear n3 o3))
        all_goals
          have WZ := hide ((unhide HWF).more (ls := [M.mk (f' : Int) (t' : Int) 1 0].filter (passB side)) (AllWf.filter (fun m hm => by simp at hm; subst hm; exact ⟨wf_small (by omega), wf_small (by omega)⟩) _))
          have hone := one_lens side (M.mk (f' : Int) (t' : Int) 1 0)
          clear D2D DA WF WT SND DZ d0 d1 d2 d3 d4
          obtain ⟨mz, hmz⟩ : ∃ mz, ms ++ [M.mk (f' : Int) (t' : Int) 1 0].filter (passB side) = mz := ⟨_, rfl⟩
          obtain ⟨lz, hlz⟩ : ∃ lz : Nat, lost + lostN side [M.mk (f' : Int) (t' : Int) 1 0] = lz := ⟨_, rfl⟩
          have hsum : gt + lz + mz.length = (mk + 1) := by rw [← hmz, ← hlz]; rw [List.length_append]; omega
          rw [hmz, hlz] at NZ
          rw [hmz] at WZ
          have LST := hide (lost_any _ (unhide NZ))
          have LEN := hide (len_any _ (unhide NZ))
          have e5 : (((gt : Int)) + (lz : Int)) + (mz.length : Int) = ((mk : Int) + 1) := by omega
          have e6 : mz.length ≤ 100 := by omega
          have e7 : lz ≤ 100 := by omega
          have e8 : gt ≤ 100 := by omega
          clear hmz hlz
          go_wp2_with fail
          refine (unhide LST).mono ?_
          rintro e wa ⟨rfl, rfl⟩
          go_wp2_with fail
          refine (unhide LEN).mono ?_
          rintro e wb ⟨rfl, rfl⟩
          go_wp2
          go_roundg (80 - (k + 1))
          case measure => have := unhide HG; omega
          case rel => exact ⟨k + 1, (mk + 1), gt, lz, mz, _, side, by omega, by omega, by go_num, by first | go_num | rfl, by first | go_num | rfl, hsum, by omega, unhide WZ, unhide NZ, unhide LZ⟩
      · by_cases hms : ms = []
        · subst hms
          have DV := hide (deliver_none nn W2 (unhide HN))
          go_wp2_with fail
          refine (unhide DV).mono ?_
          simp only [M.cells]
          rintro e w3 ⟨rfl, b3⟩
          have b4 := b3.trans (((Below.refl w3.heap.size w3).alloc (Nat.le_refl _) (.cells #[.int .i64 0, .int .i64 0, .int .i64 0, .int .i64 0, .int .i64 0, .int .i64 0, .int .i64 0, .int .i64 0, .bool false, .slice none 0 0, .slice none 0 0, .slice none 0 0, .slice none 0 0] 36)).mono b3.size)
          have NZ := hide ((unhide HN).below b4)
          have LZ := hide ((unhide HL).trans (b4.mono s1))
          have WZ := hide (unhide HWF)
          clear b3 b4 DV d0 d1 d2 d3 d4
          obtain ⟨mz, hmz⟩ : ∃ mz, ([] : List M) = mz := ⟨_, rfl⟩
          obtain ⟨lz, hlz⟩ : ∃ lz : Nat, lost = lz := ⟨_, rfl⟩
          have hsum : gt + lz + mz.length = mk := by rw [← hmz, ← hlz]; simp; simpa using hsm
          rw [hmz, hlz] at NZ
          rw [hmz] at WZ
          have LST := hide (lost_any _ (unhide NZ))
          have LEN := hide (len_any _ (unhide NZ))
          have e5 : (((gt : Int)) + (lz : Int)) + (mz.length : Int) = ((mk : Int)) := by omega
          have e6 : mz.length ≤ 100 := by omega
          have e7 : lz ≤ 100 := by omega
          have e8 : gt ≤ 100 := by omega
          clear hmz hlz
          go_wp2_with fail
          refine (unhide LST).mono ?_
          rintro e wa ⟨rfl, rfl⟩
          go_wp2_with fail
          refine (unhide LEN).mono ?_
          rintro e wb ⟨rfl, rfl⟩
          go_wp2
          go_roundg (80 - (k + 1))
          case measure => have := unhide HG; omega
          case rel => exact ⟨k + 1, mk, gt, lz, mz, _, side, by omega, by omega, by go_num, by first | go_num | rfl, by first | go_num | rfl, hsum, by omega, unhide WZ, unhide NZ, unhide LZ⟩
        · obtain ⟨at', hat, hlt'⟩ := pick_at nn hms
          obtain ⟨m, hm⟩ : ∃ m, ms[at']? = some m := ⟨_, List.getElem?_eq_getElem hlt'⟩
          have DV := hide (deliver_ok W2 (unhide HN) (by omega) hat hm s1)
          have hel : (ms.eraseIdx at').length + 1 = ms.length := by rw [List.length_eraseIdx, if_pos hlt']; omega
          obtain ⟨mf, mt, mk', mi⟩ := m
          go_wp2_with fail
          refine (unhide DV).mono ?_
          simp only [M.cells]
          rintro e w3 ⟨rfl, n3, o3⟩
          have b4 : Below w3.heap.size w3 (w3.alloc (.cells #[.int .i64 mf, .int .i64 mt, .int .i64 0, .int .i64 mk', .int .i64 0, .int .i64 mi, .int .i64 0, .int .i64 0, .bool false, .slice none 0 0, .slice none 0 0, .slice none 0 0, .slice none 0 0] 36)) := (Below.refl _ w3).alloc (Nat.le_refl _) _
          have NZ := hide (n3.below b4)
          have LZ := hide (((unhide HL).trans o3.1).trans (b4.mono (Nat.le_trans s1 o3.size)))
          have WZ := hide ((unhide HWF).erase at')
          clear n3 o3 b4 DV d0 d1 d2 d3 d4 hm hat
          obtain ⟨mz, hmz⟩ : ∃ mz, ms.eraseIdx at' = mz := ⟨_, rfl⟩
          obtain ⟨lz, hlz⟩ : ∃ lz : Nat, lost = lz := ⟨_, rfl⟩
          have hsum : (gt + 1) + lz + mz.length = mk := by rw [← hmz, ← hlz]; omega
          rw [hmz, hlz] at NZ
          rw [hmz] at WZ
          have LST := hide (lost_any _ (unhide NZ))
          have LEN := hide (len_any _ (unhide NZ))
          have e5 : (((gt : Int) + 1) + (lz : Int)) + (mz.length : Int) = ((mk : Int)) := by omega
          have e6 : mz.length ≤ 100 := by omega
          have e7 : lz ≤ 100 := by omega
          have e8 : (gt + 1) ≤ 100 := by omega
          clear hmz hlz
          go_wp2_with fail
          refine (unhide LST).mono ?_
          rintro e wa ⟨rfl, rfl⟩
          go_wp2_with fail
          refine (unhide LEN).mono ?_
          rintro e wb ⟨rfl, rfl⟩
          go_wp2
          go_roundg (80 - (k + 1))
          case measure => have := unhide HG; omega
          case rel => exact ⟨k + 1, mk, (gt + 1), lz, mz, _, side, by omega, by omega, by go_num, by first | go_num | rfl, by first | go_num | rfl, hsum, by omega, unhide WZ, unhide NZ, unhide LZ⟩
      · by_cases hms : ms = []
        · subst hms
          have DV := hide (drop_none nn W2 (unhide HN))
          go_wp2_with fail
          refine (unhide DV).mono ?_
          rintro e w3 ⟨rfl, rfl⟩
          have NZ := hide (unhide HN)
          have LZ := hide (unhide HL)
          have WZ := hide (unhide HWF)
          clear DV d0 d1 d2 d3 d4
          obtain ⟨mz, hmz⟩ : ∃ mz, ([] : List M) = mz := ⟨_, rfl⟩
          obtain ⟨lz, hlz⟩ : ∃ lz : Nat, lost = lz := ⟨_, rfl⟩
          have hsum : gt + lz + mz.length = mk := by rw [← hmz, ← hlz]; simp; simpa using hsm
          rw [hmz, hlz] at NZ
          rw [hmz] at WZ
          have LST := hide (lost_any _ (unhide NZ))
          have LEN := hide (len_any _ (unhide NZ))
          have e5 : (((gt : Int)) + (lz : Int)) + (mz.length : Int) = ((mk : Int)) := by omega
          have e6 : mz.length ≤ 100 := by omega
          have e7 : lz ≤ 100 := by omega
          have e8 : gt ≤ 100 := by omega
          clear hmz hlz
          go_wp2_with fail
          refine (unhide LST).mono ?_
          rintro e wa ⟨rfl, rfl⟩
          go_wp2_with fail
          refine (unhide LEN).mono ?_
          rintro e wb ⟨rfl, rfl⟩
          go_wp2
          go_roundg (80 - (k + 1))
          case measure => have := unhide HG; omega
          case rel => exact ⟨k + 1, mk, gt, lz, mz, _, side, by omega, by omega, by go_num, by first | go_num | rfl, by first | go_num | rfl, hsum, by omega, unhide WZ, unhide NZ, unhide LZ⟩
        · obtain ⟨at', hat, hlt'⟩ := pick_at nn hms
          have DV := hide (drop_ok W2 (unhide HN) (by omega) (by omega) hat hlt' s1)
          have hel : (ms.eraseIdx at').length + 1 = ms.length := by rw [List.length_eraseIdx, if_pos hlt']; omega
          go_wp2_with fail
          refine (unhide DV).mono ?_
          rintro e w3 ⟨rfl, n3, o3⟩
          have NZ := hide n3
          have LZ := hide ((unhide HL).trans o3.1)
          have WZ := hide ((unhide HWF).erase at')
          clear n3 o3 DV d0 d1 d2 d3 d4 hat
          obtain ⟨mz, hmz⟩ : ∃ mz, ms.eraseIdx at' = mz := ⟨_, rfl⟩
          obtain ⟨lz, hlz⟩ : ∃ lz : Nat, lost + 1 = lz := ⟨_, rfl⟩
          have hsum : gt + lz + mz.length = mk := by rw [← hmz, ← hlz]; omega
          rw [hmz, hlz] at NZ
          rw [hmz] at WZ
          have LST := hide (lost_any _ (unhide NZ))
          have LEN := hide (len_any _ (unhide NZ))
          have e5 : (((gt : Int)) + (lz : Int)) + (mz.length : Int) = ((mk : Int)) := by omega
          have e6 : mz.length ≤ 100 := by omega
          have e7 : lz ≤ 100 := by omega
          have e8 : gt ≤ 100 := by omega
          clear hmz hlz
          go_wp2_with fail
          refine (unhide LST).mono ?_
          rintro e wa ⟨rfl, rfl⟩
          go_wp2_with fail
          refine (unhide LEN).mono ?_
          rintro e wb ⟨rfl, rfl⟩
          go_wp2
          go_roundg (80 - (k + 1))
          case measure => have := unhide HG; omega
          case rel => exact ⟨k + 1, mk, gt, lz, mz, _, side, by omega, by omega, by go_num, by first | go_num | rfl, by first | go_num | rfl, hsum, by omega, unhide WZ, unhide NZ, unhide LZ⟩
      · by_cases hms : ms = []
        · subst hms
          have DV := hide (double_none nn W2 (unhide HN))
          go_wp2_with fail
          refine (unhide DV).mono ?_
          rintro e w3 ⟨rfl, rfl⟩
          have NZ := hide (unhide HN)
          have LZ := hide (unhide HL)
          have WZ := hide (unhide HWF)
          clear DV d0 d1 d2 d3 d4
          obtain ⟨mz, hmz⟩ : ∃ mz, ([] : List M) = mz := ⟨_, rfl⟩
          obtain ⟨lz, hlz⟩ : ∃ lz : Nat, lost = lz := ⟨_, rfl⟩
          have hsum : gt + lz + mz.length = mk := by rw [← hmz, ← hlz]; simp; simpa using hsm
          rw [hmz, hlz] at NZ
          rw [hmz] at WZ
          have LST := hide (lost_any _ (unhide NZ))
          have LEN := hide (len_any _ (unhide NZ))
          have e5 : (((gt : Int)) + (lz : Int)) + (mz.length : Int) = ((mk : Int)) := by omega
          have e6 : mz.length ≤ 100 := by omega
          have e7 : lz ≤ 100 := by omega
          have e8 : gt ≤ 100 := by omega
          clear hmz hlz
          go_wp2_with fail
          refine (unhide LST).mono ?_
          rintro e wa ⟨rfl, rfl⟩
          go_wp2_with fail
          refine (unhide LEN).mono ?_
          rintro e wb ⟨rfl, rfl⟩
          go_wp2
          go_roundg (80 - (k + 1))
          case measure => have := unhide HG; omega
          case rel => exact ⟨k + 1, mk, gt, lz, mz, _, side, by omega, by omega, by go_num, by first | go_num | rfl, by first | go_num | rfl, hsum, by omega, unhide WZ, unhide NZ, unhide LZ⟩
        · obtain ⟨at', hat, hlt'⟩ := pick_at nn hms
          obtain ⟨m, hm⟩ : ∃ m, ms[at']? = some m := ⟨_, List.getElem?_eq_getElem hlt'⟩
          have DV := hide (double_ok W2 (unhide HN) (by omega) hat hm s1)
          have WZ := hide ((unhide HWF).snoc (unhide HWF m (List.mem_of_getElem? hm)))
          go_wp2_with fail
          refine (unhide DV).mono ?_
          rintro e w3 ⟨rfl, ⟨bs3, n3⟩, o3⟩
          have NZ := hide n3
          have LZ := hide ((unhide HL).trans o3.1)
          clear n3 o3 DV d0 d1 d2 d3 d4 hat hm
          obtain ⟨mz, hmz⟩ : ∃ mz, ms ++ [m] = mz := ⟨_, rfl⟩
          obtain ⟨lz, hlz⟩ : ∃ lz : Nat, lost = lz := ⟨_, rfl⟩
          have hsum : gt + lz + mz.length = (mk + 1) := by rw [← hmz, ← hlz]; simp; omega
          rw [hmz, hlz] at NZ
          rw [hmz] at WZ
          have LST := hide (lost_any _ (unhide NZ))
          have LEN := hide (len_any _ (unhide NZ))
          have e5 : (((gt : Int)) + (lz : Int)) + (mz.length : Int) = ((mk : Int) + 1) := by omega
          have e6 : mz.length ≤ 100 := by omega
          have e7 : lz ≤ 100 := by omega
          have e8 : gt ≤ 100 := by omega
          clear hmz hlz
          go_wp2_with fail
          refine (unhide LST).mono ?_
          rintro e wa ⟨rfl, rfl⟩
          go_wp2_with fail
          refine (unhide LEN).mono ?_
          rintro e wb ⟨rfl, rfl⟩
          go_wp2
          go_roundg (80 - (k + 1))
          case measure => have := unhide HG; omega
          case rel => exact ⟨k + 1, (mk + 1), gt, lz, mz, _, side, by omega, by omega, by go_num, by first | go_num | rfl, by first | go_num | rfl, hsum, by omega, unhide WZ, unhide NZ, unhide LZ⟩
      · have CT := hide (cut_any (cap := cx) (ao := r) W2 (unhide HN) (unhide HWF) (by omega) (by omega) s1 (unhide HYL) (by omega) (unhide HYF) (fun w' ho => (unhide HYW) w' ho))
        have hct := filter_count ys ms
        go_wp2_with fail
        refine (unhide CT).mono ?_
        rintro e w3 ⟨rfl, ⟨bs3, n3⟩, o3⟩
        have NZ := hide n3
        have LZ := hide ((unhide HL).trans o3.1)
        have WZ := hide ((unhide HWF).filter (passB ys))
        clear n3 o3 CT d0 d1 d2 d3 d4
        obtain ⟨mz, hmz⟩ : ∃ mz, ms.filter (passB ys) = mz := ⟨_, rfl⟩
        obtain ⟨lz, hlz⟩ : ∃ lz : Nat, lost + lostN ys ms = lz := ⟨_, rfl⟩
        have hsum : gt + lz + mz.length = mk := by rw [← hmz, ← hlz]; omega
        rw [hmz, hlz] at NZ
        rw [hmz] at WZ
        have LST := hide (lost_any _ (unhide NZ))
        have LEN := hide (len_any _ (unhide NZ))
        have e5 : (((gt : Int)) + (lz : Int)) + (mz.length : Int) = ((mk : Int)) := by omega
        have e6 : mz.length ≤ 100 := by omega
        have e7 : lz ≤ 100 := by omega
        have e8 : gt ≤ 100 := by omega
        clear hmz hlz
        go_wp2_with fail
        refine (unhide LST).mono ?_
        rintro e wa ⟨rfl, rfl⟩
        go_wp2_with fail
        refine (unhide LEN).mono ?_
        rintro e wb ⟨rfl, rfl⟩
        go_wp2
        go_roundg (80 - (k + 1))
        case measure => have := unhide HG; omega
        case rel => exact ⟨k + 1, mk, gt, lz, mz, _, ys, by omega, by omega, by go_num, by first | go_num | rfl, by first | go_num | rfl, hsum, by omega, unhide WZ, unhide NZ, unhide LZ⟩
      · have HE := hide (heal_any W2 (unhide HN))
        go_wp2_with fail
        refine (unhide HE).mono ?_
        rintro e w3 ⟨rfl, n3, o3⟩
        have NZ := hide n3
        have LZ := hide ((unhide HL).trans o3.1)
        have WZ := hide (unhide HWF)
        clear n3 o3 HE d0 d1 d2 d3 d4
        obtain ⟨mz, hmz⟩ : ∃ mz, ms = mz := ⟨_, rfl⟩
        obtain ⟨lz, hlz⟩ : ∃ lz : Nat, lost = lz := ⟨_, rfl⟩
        have hsum : gt + lz + mz.length = mk := by rw [← hmz, ← hlz]; exact hsm
        rw [hmz, hlz] at NZ
        rw [hmz] at WZ
        have LST := hide (lost_any _ (unhide NZ))
        have LEN := hide (len_any _ (unhide NZ))
        have e5 : (((gt : Int)) + (lz : Int)) + (mz.length : Int) = ((mk : Int)) := by omega
        have e6 : mz.length ≤ 100 := by omega
        have e7 : lz ≤ 100 := by omega
        have e8 : gt ≤ 100 := by omega
        clear hmz hlz
        go_wp2_with fail
        refine (unhide LST).mono ?_
        rintro e wa ⟨rfl, rfl⟩
        go_wp2_with fail
        refine (unhide LEN).mono ?_
        rintro e wb ⟨rfl, rfl⟩
        go_wp2
        go_roundg (80 - (k + 1))
        case measure => have := unhide HG; omega
        case rel => exact ⟨k + 1, mk, gt, lz, mz, _, ([] : List Int), by omega, by omega, by go_num, by first | go_num | rfl, by first | go_num | rfl, hsum, by omega, unhide WZ, unhide NZ, unhide LZ⟩
    · have HLW := hide hlow
      have hcase : ¬ (k : Int) < (nc : Int) ∨ ((k : Int) < (nc : Int) ∧ ¬ (k : Int) < 80) := by omega
      clear hnt hlow hgk hwf N1 L1 hlt
      rcases hcase with hc1 | ⟨hc1, hc2⟩ <;> (
        go_wp2
        go_ret
        exact ⟨rfl, (unhide B0).trans ((unhide HLW).mono s0)⟩)
end Go.Proofs.Ytnplhoekkoomiaa

/- NetPlays: its walk. -/
import Derived.Test.YtnplhoekkoomiaaNPlA
import Derived.BigQuiet
namespace Go.Proofs.Ytnplhoekkoomiaa
open Go.RowKit Go.Maps

/-- what the loop holds. -/
structure Pl (w wr : World) (p : Nat) (k made lost : Nat) (ms : List M) (on : Bool) (sl : List Int) (lv sv : Value) : Prop where
  net : ∃ bs, Nt w.heap.size wr p bs ms (if on = true then sl else []) lost
  row : Lr w.heap.size wr lv ms
  side : Ir w.heap.size wr sv sl
  few : sl.length ≤ 20
  wfs : ∀ y ∈ sl, (Lit.int .i64 y).wf = true
  wfm : AllWf ms
  cnt : lost + ms.length ≤ k
  md : made ≤ k
  low : Below w.heap.size w wr
theorem Pl.below {w wr wx : World} {p k made lost : Nat} {ms : List M} {on : Bool} {sl : List Int} {lv sv : Value} (h : Pl w wr p k made lost ms on sl lv sv) (hb : Below wr.heap.size wr wx) : Pl w wx p k made lost ms on sl lv sv :=
  ⟨by obtain ⟨bs, n⟩ := h.net; exact ⟨bs, n.below hb⟩, h.row.below hb, h.side.below hb, h.few, h.wfs, h.wfm, h.cnt, h.md, h.low.trans (hb.mono h.low.size)⟩
theorem Pl.up {w wr : World} {p k made lost : Nat} {ms : List M} {on : Bool} {sl : List Int} {lv sv : Value} (h : Pl w wr p k made lost ms on sl lv sv) : Pl w wr p (k + 1) made lost ms on sl lv sv :=
  ⟨h.net, h.row, h.side, h.few, h.wfs, h.wfm, Nat.le_succ_of_le h.cnt, Nat.le_succ_of_le h.md, h.low⟩
theorem cut_on (on : Bool) (sl : List Int) (f t : Int) : (on && cutB sl f t) = cutB (if on = true then sl else []) f t := by
  cases on <;> simp [cutB]

set_option maxRecDepth 20000 in
set_option maxHeartbeats 16000000 in
theorem plays_walk (ao : Option Addr) (nc cc : Nat) (W : World) (hnc : nc ≤ maxLen) (hc : CallsAt W ao nc) :
    Calls Try.prog 3 #[.slice ao nc cc] W fun e w' => e = .returned (.bool true) ∧ Below W.heap.size W w' := by
  have HC := hide hc
  have hnc' : nc ≤ 9223372036854775807 := hnc
  clear hc
  go_enter Try.func3, Try.ntmps3
  go_wp2_with fail
  refine (known_any W).mono ?_
  rintro e w ⟨rfl, b0⟩
  have B0 := hide b0
  have s0 := b0.size
  clear b0
  go_wp2_with fail
  refine (new_any w).mono ?_
  rintro e w1 ⟨rfl, n1, b1⟩
  have P1 : Hid (Pl w w1 w.heap.size 0 0 0 [] false [] (.slice none 0 0) (.slice none 0 0)) := ⟨⟨[], n1⟩, Lr.nil _ _, World.ownsRow_nil _ _ _ _, by simp, (fun y hy => by simp at hy), (fun m hm => by simp at hm), by simp, by simp, b1⟩
  clear n1 b1
  go_wp2_with fail
  go_loopg [4, 5, 6, 7, 8, 9] 100 (fun gg lv sv ov lo mv iv wr => ∃ (k made lost : Nat) (ms : List M) (on : Bool) (sl : List Int), k + gg = 100 ∧ k ≤ nc ∧ iv = .int .i64 (k : Int) ∧ mv = .int .i64 (made : Int) ∧ lo = .int .i64 (lost : Int) ∧ ov = .bool on ∧ Pl w wr w.heap.size k made lost ms on sl lv sv)
  case atStart => exact ⟨0, 0, 0, [], false, [], by omega, by omega, rfl, rfl, rfl, rfl, unhide P1⟩
  case round =>
    obtain ⟨k, made, lost, ms, on, sl, hgk, hkn, rfl, rfl, rfl, rfl, hpl⟩ := hrel
    have sr := hpl.low.size
    by_cases hlt : k < nc ∧ k < 100
    · obtain ⟨a, kind, nn, f, t, r, l, cx, ys, rfl, c0, c1, c2, c3, c4, hyl, hym, hyi, hyf⟩ := (unhide HC) k hlt.1
      have bR := (unhide B0).trans (hpl.low.mono s0)
      obtain ⟨blk, off, spot⟩ := a
      have hspot : spot = none := by
        obtain ⟨a0, _, _, _, _, _, _, _, _, e0, hc00, _⟩ := unhide HC 0 (by omega)
        cases e0
        simpa [Addr.add] using World.cell?_spot hc00
      subst hspot
      rw [Addr.add_lit] at c0 c1 c2 c3 c4
      rw [← Nat.add_assoc] at c1 c2 c3 c4
      rw [← bR.cell (blk_lt c0)] at c0
      rw [← bR.cell (blk_lt c1)] at c1
      rw [← bR.cell (blk_lt c2)] at c2
      rw [← bR.cell (blk_lt c3)] at c3
      rw [← bR.cell (blk_lt c4)] at c4
      have hl1 : k < nc := hlt.1
      have hl2 : (k : Int) < 100 := by omega
      have hym' : l ≤ 9223372036854775807 := hym
      obtain ⟨W1, hW1⟩ : ∃ W1, wr.alloc (.cells #[.int .i64 kind, .int .i64 nn, .int .i64 f, .int .i64 t, .slice r l cx] 29) = W1 := ⟨_, rfl⟩
      have bW : Below wr.heap.size wr W1 := by rw [← hW1]; exact (Below.refl _ wr).alloc (Nat.le_refl _) _
      have xW : W1.heap[wr.heap.size]? = some (.cells #[.int .i64 kind, .int .i64 nn, .int .i64 f, .int .i64 t, .slice r l cx] 29 (0, 0)) := by rw [← hW1]; exact heap_alloc_new _ _
      have d0 : W1.cell? ⟨wr.heap.size, 0, none⟩ = some (.int .i64 kind) := (cell_of_block xW).trans rfl
      have d1 : W1.cell? ⟨wr.heap.size, 1, none⟩ = some (.int .i64 nn) := (cell_of_block xW).trans rfl
      have d2 : W1.cell? ⟨wr.heap.size, 2, none⟩ = some (.int .i64 f) := (cell_of_block xW).trans rfl
      have d3 : W1.cell? ⟨wr.heap.size, 3, none⟩ = some (.int .i64 t) := (cell_of_block xW).trans rfl
      have d4 : W1.cell? ⟨wr.heap.size, 4, none⟩ = some (.slice r l cx) := (cell_of_block xW).trans rfl
      have p1 := hpl.below bW
      have s1 := p1.low.size
      obtain ⟨lao, lcap, rfl, hlc, hlm, hlne, hlad⟩ := p1.row.slice
      obtain ⟨sao, scap, rfl, _, _, _⟩ := p1.side.slice
      have hms1 : ms.length ≤ 100 := by have := p1.cnt; omega
      have hlo1 : lost ≤ 100 := by have := p1.cnt; omega
      have hmd1 : made ≤ 100 := by have := p1.md; omega
      have hsl1 := p1.few
      have HP := hide p1
      have HLN := hide hlne
      have HLA := hide hlad
      have HG := hide hgk
      have HW1 := hide hW1
      have HYW := hide (fun (w' : World) (ho : Below w.heap.size w w') => hyi.sub ((unhide B0).trans (ho.mono s0)))
      have HYF := hide hyf
      have HYL := hide hyl
      have HXW := hide xW
      have hlm' : lcap ≤ 9223372036854775807 := hlm
      clear hgk hpl hlt p1 bW hW1 xW P1 hyi hyf hyl bR hlne hlad hlm
      by_cases hbig : 20 < l
      · have hbig' : (20 : Int) < (l : Int) := by omega
        as_aux_lemma =>
          go_upto_region 12 with fail
          rw [unhide HW1]
          clear HW1 c0 c1 c2 c3 c4
          go_wp2
          go_roundg (100 - (k + 1))
          case measure => have := unhide HG; omega
          case rel => exact ⟨k + 1, made, lost, ms, on, sl, by omega, by omega, by go_num, rfl, rfl, rfl, (unhide HP).up⟩
      have hbig' : ¬ (20 : Int) < (l : Int) := by omega
      obtain ⟨g, hg, hg6⟩ := mod_nat kind 6 (by decide)
      have WG := hide (fun w => show Calls Try.prog 9 #[.int .i64 kind, .int .i64 6] w fun ev w' => ev = .returned (.int .i64 (g : Int)) ∧ w' = w by rw [← hg]; exact within_any kind 6 w (by decide) (by decide))
      clear hg
      go_upto_region 12 with fail
      rw [unhide HW1]
      clear HW1 c0 c1 c2 c3 c4
      go_upto_if 43 with fail
      go_cut [11] from 23 to 253 (fun kv wc => ∃ at' : Nat, kv = .int .i64 (at' : Int) ∧ (ms ≠ [] → nn % (ms.length : Int) = (at' : Int) ∧ at' < ms.length) ∧ wc = W1)
      case first =>
        by_cases hms : ms = []
        · subst hms
          as_aux_lemma =>
            go_wp2_with fail
            go_meet
            exact ⟨0, rfl, fun h => absurd rfl h, rfl⟩
        · obtain ⟨at', hat, hlt'⟩ := pick_at nn hms
          have hl0 : 0 < ms.length := by omega
          have WN := hide (show Calls Try.prog 9 #[.int .i64 nn, .int .i64 (ms.length : Int)] W1 fun ev w' => ev = .returned (.int .i64 (at' : Int)) ∧ w' = W1 by rw [← hat]; exact within_any nn _ W1 (by omega) (by omega))
          have HAT := hide hat
          clear hat
          as_aux_lemma =>
            go_wp2_with fail
            refine (unhide WN).mono ?_
            rintro e wx ⟨rfl, rfl⟩
            go_wp2_with fail
            go_meet
            exact ⟨at', rfl, fun _ => ⟨unhide HAT, hlt'⟩, rfl⟩
      case rest =>
      obtain ⟨at', rfl, hat, rfl⟩ := hcut
      have HAT := hide hat
      clear hat
      go_wp2_with fail
      refine (unhide WG _).mono ?_
      rintro e W2 ⟨rfl, rfl⟩
      clear WG
      have hcases : g = 0 ∨ g = 1 ∨ g = 2 ∨ g = 3 ∨ g = 4 ∨ g = 5 := by omega
      rcases hcases with rfl | rfl | rfl | rfl | rfl | rfl
      · obtain ⟨f', hf, hf5⟩ := mod_nat f 5 (by decide)
        obtain ⟨t', ht, ht5⟩ := mod_nat t 5 (by decide)
        have WF := hide (fun w => show Calls Try.prog 9 #[.int .i64 f, .int .i64 5] w fun ev w' => ev = .returned (.int .i64 (f' : Int)) ∧ w' = w by rw [← hf]; exact within_any f 5 w (by decide) (by decide))
        have WT := hide (fun w => show Calls Try.prog 9 #[.int .i64 t, .int .i64 5] w fun ev w' => ev = .returned (.int .i64 (t' : Int)) ∧ w' = w by rw [← ht]; exact within_any t 5 w (by decide) (by decide))
        clear hf ht
        go_upto_region 18 with fail
        go_quiet (first
          | (go_at_call_of 9 (Value.int .i64 f); exact Calls.quiet_of_same (unhide WF _))
          | (go_at_call_of 9 (Value.int .i64 t); exact Calls.quiet_of_same (unhide WT _)))
        have p2 := (unhide HP).below (drewN_below W2 nq)
        obtain ⟨X, hX⟩ : ∃ X, W2.drewN nq = X := ⟨_, rfl⟩
        rw [hX] at p2
        rw [hX]
        have sX := p2.low.size
        obtain ⟨bs, n2⟩ := p2.net
        have SND := hide (send_one (M.mk (f' : Int) (t' : Int) 1 ((made : Int) + 1)) X n2 ⟨wf_small (by omega), wf_small (by omega)⟩ sX (by omega) (by omega))
        have P2 := hide p2
        clear n2 p2 hX WF WT HP d0 d1 d2 d3 d4 HXW
        go_wp2_with fail
        rw [show X.alloc (.cells #[.int .i64 (f' : Int), .int .i64 (t' : Int), .int .i64 0, .int .i64 1, .int .i64 0, .int .i64 ((made : Int) + 1), .int .i64 0, .int .i64 0, .bool false, .slice none 0 0, .slice none 0 0, .slice none 0 0, .slice none 0 0] 36) = X.alloc (.cells (M.mk (f' : Int) (t' : Int) 1 ((made : Int) + 1)).cells 36) from rfl]
        refine (unhide SND).mono ?_
        rintro e w3 ⟨rfl, ⟨bs3, n3⟩, o3⟩
        have LC := lcut_same (cap := scap) on (f' : Int) (t' : Int) w3 rfl (show sl.length ≤ 1000000 by omega) ((unhide P2).side.only o3 (by decide)).ints
        rw [cut_on] at LC
        have r3 := (unhide P2).row.only o3 (by decide)
        have i3 := (unhide P2).side.only o3 (by decide)
        have l3 := (unhide P2).low.trans o3.1
        by_cases hcut : cutB (if on = true then sl else []) (f' : Int) (t' : Int) = true
        · rw [hcut] at LC
          have n4 : Nt w.heap.size w3 w.heap.size bs3 ms (if on = true then sl else []) (lost + 1) := by
            have h3 := n3
            simp only [List.filter_cons, List.filter_nil, passB, lostN, hcut] at h3
            simpa using h3
          have PZ : Hid (Pl w w3 w.heap.size (k + 1) (made + 1) (lost + 1) ms on sl (.slice lao ms.length lcap) (.slice sao sl.length scap)) := ⟨⟨_, n4⟩, r3, i3, (unhide P2).few, (unhide P2).wfs, (unhide P2).wfm, by have := (unhide P2).cnt; omega, by have := (unhide P2).md; omega, l3⟩
          have HLC := hide LC
          clear n3 n4 r3 i3 l3 o3 LC hcut SND
          as_aux_lemma =>
            go_wp2_with fail
            refine (unhide HLC).mono ?_
            rintro e w4 ⟨rfl, rfl⟩
            as_aux_lemma =>
              obtain ⟨lz, hlz⟩ : ∃ lz : Nat, lost + 1 = lz := ⟨_, rfl⟩
              rw [hlz] at PZ
              obtain ⟨bz, nz⟩ := (unhide PZ).net
              have LST := hide (lost_any _ nz)
              have LEN := hide (len_any _ nz)
              have e6 : ms.length ≤ 200 := by have := (unhide PZ).cnt; omega
              have e7 : lz ≤ 200 := by have := (unhide PZ).cnt; omega
              have e8 : ((lost : Int) + 1) = (lz : Int) := by omega
              clear nz hlz
              as_aux_lemma =>
                go_wp2_with fail
                refine (unhide LEN).mono ?_
                rintro e wa ⟨rfl, rfl⟩
                as_aux_lemma =>
                  go_wp2_with fail
                  refine (unhide LST).mono ?_
                  rintro e wb ⟨rfl, rfl⟩
                  as_aux_lemma =>
                    go_wp2
                    go_roundg (100 - (k + 1))
                    case measure => have := unhide HG; omega
                    case rel => exact ⟨k + 1, made + 1, lz, ms, on, sl, by omega, by omega, by go_num, by first | go_num | rfl, by first | rfl | (simp; omega) | go_num, rfl, unhide PZ⟩
        · rw [Bool.not_eq_true] at hcut
          rw [hcut] at LC
          have n4 : Nt w.heap.size w3 w.heap.size bs3 (ms ++ [M.mk (f' : Int) (t' : Int) 1 ((made : Int) + 1)]) (if on = true then sl else []) lost := by
            have h3 := n3
            simp only [List.filter_cons, List.filter_nil, passB, lostN, hcut] at h3
            simpa using h3
          have N4 := hide n4
          have R3 := hide r3
          have I3 := hide i3
          have L3 := hide l3
          have HLC := hide LC
          have hbz : w.heap.size ≤ (w3.alloc (.cells #[.int .i64 (f' : Int), .int .i64 (t' : Int), .int .i64 ((made : Int) + 1)] 39)).heap.size := Nat.le_trans l3.size ((Below.refl w3.heap.size w3).alloc (Nat.le_refl _) _).size
          clear n3 n4 r3 i3 l3 o3 LC hcut SND
          as_aux_lemma =>
            go_wp2_with fail
            refine (unhide HLC).mono ?_
            rintro e w4 ⟨rfl, rfl⟩
            as_aux_lemma =>
              go_upto_region 62 with (first | (at_builtin; refine wpList_rows rfl _ _ rfl w.heap.size (.slice lao ms.length lcap) ms [M.mk (f' : Int) (t' : Int) 1 ((made : Int) + 1)] rfl ((unhide R3).below ((Below.refl _ w4).alloc (Nat.le_refl _) _)) ⟨w4.heap.size, 0, none⟩ 1 1 rfl rfl (fun j u hj => news_at j u hj) (by omega) hbz ?_; intro v5 w5 r5 g5 _) | go_in)
              have bA : Below w4.heap.size w4 (w4.alloc (.cells #[.int .i64 (f' : Int), .int .i64 (t' : Int), .int .i64 ((made : Int) + 1)] 39)) := (Below.refl _ w4).alloc (Nat.le_refl _) _
              have o5 := grown_only ((unhide R3).below bA) g5 hbz (Nat.le_refl _)
              have PZ : Hid (Pl w w5 w.heap.size (k + 1) (made + 1) lost (ms ++ [M.mk (f' : Int) (t' : Int) 1 ((made : Int) + 1)]) on sl v5 (.slice sao sl.length scap)) := ⟨⟨_, ((unhide N4).below bA).grownL ((unhide R3).below bA) g5 (by decide) (by decide) (by decide)⟩, r5, ((unhide I3).below bA).only o5 (by decide), (unhide P2).few, (unhide P2).wfs, (unhide P2).wfm.snoc ⟨wf_small (by omega), wf_small (by omega)⟩, by have := (unhide P2).cnt; rw [List.length_append]; simp; omega, by have := (unhide P2).md; omega, (unhide L3).trans ((bA.mono (unhide L3).size).trans o5.1)⟩
              clear r5 g5 o5 bA N4 R3 I3 L3
              obtain ⟨mz, hmz⟩ : ∃ mz, ms ++ [M.mk (f' : Int) (t' : Int) 1 ((made : Int) + 1)] = mz := ⟨_, rfl⟩
              obtain ⟨lz, hlz⟩ : ∃ lz : Nat, lost = lz := ⟨_, rfl⟩
              rw [hmz, hlz] at PZ
              obtain ⟨zao, zcap, rfl, _, _, _⟩ := (unhide PZ).row.slice
              obtain ⟨bz, nz⟩ := (unhide PZ).net
              have LST := hide (lost_any _ nz)
              have LEN := hide (len_any _ nz)
              have e6 : mz.length ≤ 200 := by have := (unhide PZ).cnt; omega
              have e7 : lz ≤ 200 := by have := (unhide PZ).cnt; omega
              have e8 : ((lost : Int)) = (lz : Int) := by omega
              clear nz hmz hlz
              as_aux_lemma =>
                go_wp2_with fail
                refine (unhide LEN).mono ?_
                rintro e wa ⟨rfl, rfl⟩
                as_aux_lemma =>
                  go_wp2_with fail
                  refine (unhide LST).mono ?_
                  rintro e wb ⟨rfl, rfl⟩
                  as_aux_lemma =>
                    go_wp2
                    go_roundg (100 - (k + 1))
                    case measure => have := unhide HG; omega
                    case rel => exact ⟨k + 1, made + 1, lz, mz, on, sl, by omega, by omega, by go_num, by first | go_num | rfl, by first | rfl | (simp; omega) | go_num, rfl, unhide PZ⟩
      · skip
        as_aux_lemma =>
          obtain ⟨bs, n2⟩ := (unhide HP).net
          by_cases hms : ms = []
          · subst hms
            have DV := hide (deliver_none nn W2 n2)
            clear n2
            as_aux_lemma =>
              go_wp2_with fail
              refine (unhide DV).mono ?_
              simp only [M.cells]
              rintro e w3 ⟨rfl, b3⟩
              have b4 := b3.trans (((Below.refl w3.heap.size w3).alloc (Nat.le_refl _) (.cells #[.int .i64 0, .int .i64 0, .int .i64 0, .int .i64 0, .int .i64 0, .int .i64 0, .int .i64 0, .int .i64 0, .bool false, .slice none 0 0, .slice none 0 0, .slice none 0 0, .slice none 0 0] 36)).mono b3.size)
              have PZ := hide ((unhide HP).below b4).up
              clear b3 b4 DV d0 d1 d2 d3 d4
              go_wp2
              go_roundg (100 - (k + 1))
              case measure => have := unhide HG; omega
              case rel => exact ⟨k + 1, made, lost, [], on, sl, by omega, by omega, by go_num, rfl, rfl, rfl, unhide PZ⟩
          · obtain ⟨hat, hlt'⟩ := unhide HAT hms
            obtain ⟨m, hm⟩ : ∃ m, ms[at']? = some m := ⟨_, List.getElem?_eq_getElem hlt'⟩
            obtain ⟨lg, rfl, hlg, hlgs, hlb⟩ := unhide HLN hms
            have DV := hide (deliver_ok W2 n2 (by omega) hat hm s1)
            have hl0 : 0 < ms.length := by omega
            obtain ⟨mf, mt, mk', mi⟩ := m
            have HM := hide hm
            clear n2 hat hm
            as_aux_lemma =>
              go_wp2_with fail
              refine (unhide DV).mono ?_
              simp only [M.cells]
              rintro e w3 ⟨rfl, n3, o3⟩
              obtain ⟨W4, hW4⟩ : ∃ W4, w3.alloc (.cells (M.mk mf mt mk' mi).cells 36) = W4 := ⟨_, rfl⟩
              have b4 : Below w3.heap.size w3 W4 := by rw [← hW4]; exact (Below.refl _ w3).alloc (Nat.le_refl _) _
              have x4 : W4.heap[w3.heap.size]? = some (.cells (M.mk mf mt mk' mi).cells 36 (0, 0)) := by rw [← hW4]; exact heap_alloc_new _ _
              have y0 : W4.cell? ⟨w3.heap.size, 0, none⟩ = some (.int .i64 mf) := (cell_of_block x4).trans rfl
              have y1 : W4.cell? ⟨w3.heap.size, 1, none⟩ = some (.int .i64 mt) := (cell_of_block x4).trans rfl
              have y5 : W4.cell? ⟨w3.heap.size, 5, none⟩ = some (.int .i64 mi) := (cell_of_block x4).trans rfl
              have r4 := ((unhide HP).row.only o3 (by decide)).below b4
              have l4 := ((unhide HP).low.trans o3.1).trans (b4.mono (Nat.le_trans s1 o3.size))
              have i4 := ((unhide HP).side.only o3 (by decide)).below b4
              obtain ⟨q0, q1, q2⟩ := r4.at (unhide HM)
              have N4 := hide (n3.below b4)
              have R4 := hide r4
              have L4 := hide l4
              have I4 := hide i4
              have HW4 := hide hW4
              clear n3 o3 b4 x4 hW4 DV r4 l4 i4 d0 d1 d2 d3 d4 HXW
              as_aux_lemma =>
                go_upto_region 26 with fail
                rw [show w3.alloc (.cells #[.int .i64 mf, .int .i64 mt, .int .i64 0, .int .i64 mk', .int .i64 0, .int .i64 mi, .int .i64 0, .int .i64 0, .bool false, .slice none 0 0, .slice none 0 0, .slice none 0 0, .slice none 0 0] 36) = W4 from unhide HW4]
                clear HW4
                as_aux_lemma =>
                  go_upto_region 29 with fail
                  go_quiet (fail)
                  obtain ⟨X, hX⟩ : ∃ X, W4.drewN nq = X := ⟨_, rfl⟩
                  have bX : Below W4.heap.size W4 X := by rw [← hX]; exact drewN_below W4 nq
                  rw [hX]
                  have NX := hide ((unhide N4).below bX)
                  have rX := (unhide R4).below bX
                  have LX := hide ((unhide L4).trans (bX.mono (unhide L4).size))
                  have IX := hide ((unhide I4).below bX)
                  have sX := (unhide LX).size
                  have hlgX : lg < X.heap.size := (rX.lt lg rfl).2
                  clear hX bX q0 q1 q2 y0 y1 y5 N4 R4 L4 I4
                  have EH : Hid ((X.alloc (.cells #[] 39)).drew.heap[X.heap.size]? = some (.cells #[] 39 (0, 0))) := heap_alloc_new X _
                  have BXE : Hid (Below X.heap.size X (X.alloc (.cells #[] 39)).drew) := ((Below.refl _ X).alloc (Nat.le_refl _) _).drew
                  have EHB : Hid (w.heap.size ≤ (X.alloc (.cells #[] 39)).drew.heap.size) := Nat.le_trans sX (unhide BXE).size
                  have LRE := hide (rX.below (unhide BXE))
                  have CT1 : Hid (∀ j u, (flat3 (ms.take at'))[j]? = some u → (X.alloc (.cells #[] 39)).drew.cell? ((⟨lg, 0, none⟩ : Addr).add j) = some u) := fun j u hj => by
                    rw [Addr.add_lit, Nat.zero_add]; exact (unhide LRE).cells j u (flat3_take hj)
                  have LB5 : Hid (∀ w5, (X.alloc (.cells #[] 39)).drew.grownBy w5 (Value.slice (some ⟨X.heap.size, 0, none⟩) 0 0).ownBlock → Lr w.heap.size w5 (.slice (some ⟨lg, 0, none⟩) ms.length lcap) ms) := fun w5 g5 =>
                    (unhide LRE).beside g5 (fun q hq e => by
                      have h1 : q = lg := by simpa [Value.ownBlock] using hq.symm
                      have h2 : X.heap.size = q := by simpa [Value.ownBlock] using e
                      exact ne2 h1 h2 hlgX)
                  obtain ⟨z1, z2, z5, zw, zx, zt, zl⟩ := zz hlt' hms1 hlc
                  obtain ⟨mz, hmz⟩ : ∃ mz, ms.eraseIdx at' = mz := ⟨_, rfl⟩
                  have E6 : Hid ([] ++ ms.take at' ++ ms.drop (at' + 1) = mz) := by show _ = _; rw [← hmz, List.nil_append, List.eraseIdx_eq_take_drop_succ]
                  have HE6 : Hid (mz.length + 1 = ms.length) := by show _ = _; rw [← hmz]; exact len_erase hlt'
                  have WE6 : Hid (AllWf mz) := by show AllWf _; rw [← hmz]; exact (unhide HP).wfm.erase at'
                  rw [hmz] at NX
                  clear hmz
                  by_cases hend : at' + 1 = lcap
                  · have hnl : ms.length = at' + 1 := zn hlt' hlc hend
                    have hde : ms.drop (at' + 1) = [] := List.drop_eq_nil_of_le (Nat.le_of_eq hnl)
                    have HDE := hide hde
                    subst hend
                    have z6 : (at' : Int) ≤ (at' : Int) + 1 := zi at'
                    as_aux_lemma =>
                      go_upto_region 31 with fail
                      go_region_held_law (fun _ => True) (trivial) (first
                        | (refine step_rows (.tmp 129) (.tmp 132) rfl rfl ?_
                           refine wp_rows (.tmp 129) (.tmp 132) rfl w.heap.size (.slice (some ⟨X.heap.size, 0, none⟩) 0 0) [] (ms.take at') rfl (Lr.empty sX (unhide EH)) ⟨lg, 0, none⟩ at' (at' + 1) (len_take hlt') rfl (unhide CT1) (bd1 hlt' hms1) (unhide EHB) ?_
                           intro v5 w5 r5 g5 h5
                           obtain ⟨vao, vcap, rfl, _, _, _⟩ := r5.slice
                           have R5 := hide r5
                           have G5 := hide g5
                           have LR5 := hide (unhide LB5 w5 g5)
                           have HB5 : Hid (w.heap.size ≤ w5.heap.size) := Nat.le_trans (unhide EHB) g5.size
                           clear r5 g5 h5)
                        | (refine step_rows (.tmp 133) (.tmp 137) rfl rfl ?_
                           refine wp_rows (.tmp 133) (.tmp 137) rfl w.heap.size _ ([] ++ ms.take at') (ms.drop (at' + 1)) rfl (unhide R5) ⟨lg, 0, none⟩ 0 0 (by rw [unhide HDE]; rfl) rfl (fun j u hj => (by rw [unhide HDE] at hj; simp [flat3] at hj)) (bd2 hlt' hms1 (Nat.zero_le _)) (unhide HB5) ?_
                           intro v6 w6 r6 g6 h6
                           rw [unhide E6] at r6
                           obtain ⟨uao, ucap, rfl, _, _, _⟩ := r6.slice
                           have R6 := hide r6
                           have G6 := hide g6
                           clear r6 g6 h6))
                      all_goals
                        have o5 := grown_only (Lr.empty sX (unhide EH)) (unhide G5) (unhide EHB) (Nat.le_refl _)
                        have o6 := grown_only (unhide R5) (unhide G6) (unhide HB5) (Nat.le_refl _)
                        have o7 : Only w.heap.size [39] X w6 := ((Only.of_below (unhide BXE) sX).trans o5).trans o6
                      all_goals
                        have PZ : Hid (Pl w w6 w.heap.size (k + 1) made lost mz on sl (.slice uao mz.length ucap) (.slice sao sl.length scap)) := ⟨⟨_, (unhide NX).only o7 (by decide) (by decide) (by decide)⟩, unhide R6, (unhide IX).only o7 (by decide), (unhide HP).few, (unhide HP).wfs, unhide WE6, cn0 (unhide HP).cnt (unhide HE6), Nat.le_succ_of_le (unhide HP).md, (unhide LX).trans o7.1⟩
                        clear o5 o6 o7 R6 G6 R5 G5 LR5 NX IX LX EH BXE EHB LRE CT1 LB5 rX
                      all_goals (
                        obtain ⟨lz, hlz⟩ : ∃ lz : Nat, lost = lz := ⟨_, rfl⟩
                        rw [hlz] at PZ
                        obtain ⟨bz, nz⟩ := (unhide PZ).net
                        have LST := hide (lost_any _ nz)
                        have LEN := hide (len_any _ nz)
                        have e6 : mz.length ≤ 200 := by have := (unhide PZ).cnt; omega
                        have e7 : lz ≤ 200 := by have := (unhide PZ).cnt; omega
                        have e8 : ((lost : Int)) = (lz : Int) := by omega
                        clear nz hlz
                        as_aux_lemma =>
                          go_wp2_with fail
                          refine (unhide LEN).mono ?_
                          rintro e wa ⟨rfl, rfl⟩
                          as_aux_lemma =>
                            go_wp2_with fail
                            refine (unhide LST).mono ?_
                            rintro e wb ⟨rfl, rfl⟩
                            as_aux_lemma =>
                              go_wp2
                              go_roundg (100 - (k + 1))
                              case measure => have := unhide HG; omega
                              case rel => exact ⟨k + 1, made, lz, mz, on, sl, by omega, by omega, by go_num, by first | go_num | rfl, by first | rfl | (simp; omega) | go_num, rfl, unhide PZ⟩)
                  · have z3 : ¬ lcap = at' + 1 := fun h => hend h.symm
                    have z4 : at' + 1 ≤ lcap := Nat.le_trans z2 hlc
                    as_aux_lemma =>
                      go_upto_region 31 with fail
                      go_region_held_law (fun _ => True) (trivial) (first
                        | (refine step_rows (.tmp 129) (.tmp 132) rfl rfl ?_
                           refine wp_rows (.tmp 129) (.tmp 132) rfl w.heap.size (.slice (some ⟨X.heap.size, 0, none⟩) 0 0) [] (ms.take at') rfl (Lr.empty sX (unhide EH)) ⟨lg, 0, none⟩ at' lcap (len_take hlt') rfl (unhide CT1) (bd1 hlt' hms1) (unhide EHB) ?_
                           intro v5 w5 r5 g5 h5
                           obtain ⟨vao, vcap, rfl, _, _, _⟩ := r5.slice
                           have R5 := hide r5
                           have G5 := hide g5
                           have LR5 := hide (unhide LB5 w5 g5)
                           have HB5 : Hid (w.heap.size ≤ w5.heap.size) := Nat.le_trans (unhide EHB) g5.size
                           clear r5 g5 h5)
                        | (refine step_rows (.tmp 133) (.tmp 137) rfl rfl ?_
                           refine wp_rows (.tmp 133) (.tmp 137) rfl w.heap.size _ ([] ++ ms.take at') (ms.drop (at' + 1)) rfl (unhide R5) ⟨lg, (at' + 1) * 3, none⟩ (ms.length - (at' + 1)) (lcap - (at' + 1)) (len_drop _ _) rfl (fun j u hj => (by rw [Addr.add_lit]; exact (unhide LR5).cells _ _ (flat3_drop z2 hj))) (bd2 hlt' hms1 (Nat.sub_le _ _)) (unhide HB5) ?_
                           intro v6 w6 r6 g6 h6
                           rw [unhide E6] at r6
                           obtain ⟨uao, ucap, rfl, _, _, _⟩ := r6.slice
                           have R6 := hide r6
                           have G6 := hide g6
                           clear r6 g6 h6))
                      all_goals
                        have o5 := grown_only (Lr.empty sX (unhide EH)) (unhide G5) (unhide EHB) (Nat.le_refl _)
                        have o6 := grown_only (unhide R5) (unhide G6) (unhide HB5) (Nat.le_refl _)
                        have o7 : Only w.heap.size [39] X w6 := ((Only.of_below (unhide BXE) sX).trans o5).trans o6
                      all_goals
                        have PZ : Hid (Pl w w6 w.heap.size (k + 1) made lost mz on sl (.slice uao mz.length ucap) (.slice sao sl.length scap)) := ⟨⟨_, (unhide NX).only o7 (by decide) (by decide) (by decide)⟩, unhide R6, (unhide IX).only o7 (by decide), (unhide HP).few, (unhide HP).wfs, unhide WE6, cn0 (unhide HP).cnt (unhide HE6), Nat.le_succ_of_le (unhide HP).md, (unhide LX).trans o7.1⟩
                        clear o5 o6 o7 R6 G6 R5 G5 LR5 NX IX LX EH BXE EHB LRE CT1 LB5 rX
                      all_goals (
                        obtain ⟨lz, hlz⟩ : ∃ lz : Nat, lost = lz := ⟨_, rfl⟩
                        rw [hlz] at PZ
                        obtain ⟨bz, nz⟩ := (unhide PZ).net
                        have LST := hide (lost_any _ nz)
                        have LEN := hide (len_any _ nz)
                        have e6 : mz.length ≤ 200 := by have := (unhide PZ).cnt; omega
                        have e7 : lz ≤ 200 := by have := (unhide PZ).cnt; omega
                        have e8 : ((lost : Int)) = (lz : Int) := by omega
                        clear nz hlz
                        as_aux_lemma =>
                          go_wp2_with fail
                          refine (unhide LEN).mono ?_
                          rintro e wa ⟨rfl, rfl⟩
                          as_aux_lemma =>
                            go_wp2_with fail
                            refine (unhide LST).mono ?_
                            rintro e wb ⟨rfl, rfl⟩
                            as_aux_lemma =>
                              go_wp2
                              go_roundg (100 - (k + 1))
                              case measure => have := unhide HG; omega
                              case rel => exact ⟨k + 1, made, lz, mz, on, sl, by omega, by omega, by go_num, by first | go_num | rfl, by first | rfl | (simp; omega) | go_num, rfl, unhide PZ⟩)
      · skip
        as_aux_lemma =>
          obtain ⟨bs, n2⟩ := (unhide HP).net
          by_cases hms : ms = []
          · subst hms
            have DV := hide (drop_none nn W2 n2)
            clear n2
            have PZ := hide (unhide HP).up
            go_wp2_with fail
            refine (unhide DV).mono ?_
            rintro e w3 ⟨rfl, rfl⟩
            clear DV d0 d1 d2 d3 d4
            obtain ⟨bz, nz⟩ := (unhide PZ).net
            have LST := hide (lost_any _ nz)
            have LEN := hide (len_any _ nz)
            have e7 : lost ≤ 200 := by have := (unhide PZ).cnt; omega
            clear nz
            as_aux_lemma =>
              go_wp2_with fail
              refine (unhide LEN).mono ?_
              rintro e wa ⟨rfl, rfl⟩
              as_aux_lemma =>
                go_wp2_with fail
                refine (unhide LST).mono ?_
                rintro e wb ⟨rfl, rfl⟩
                as_aux_lemma =>
                  go_wp2
                  go_roundg (100 - (k + 1))
                  case measure => have := unhide HG; omega
                  case rel => exact ⟨k + 1, made, lost, [], on, sl, by omega, by omega, by go_num, by first | go_num | rfl, by first | rfl | (simp; omega) | go_num, rfl, unhide PZ⟩
          · obtain ⟨hat, hlt'⟩ := unhide HAT hms
            obtain ⟨lg, rfl, hlg, hlgs, hlb⟩ := unhide HLN hms
            have DV := hide (drop_ok W2 n2 (by omega) (by omega) hat hlt' s1)
            have hl0 : 0 < ms.length := by omega
            clear n2 hat
            as_aux_lemma =>
              go_wp2_with fail
              refine (unhide DV).mono ?_
              rintro e X ⟨rfl, n3, o3⟩
              have rX := (unhide HP).row.only o3 (by decide)
              have NX := hide n3
              have LX := hide ((unhide HP).low.trans o3.1)
              have IX := hide ((unhide HP).side.only o3 (by decide))
              have sX := (unhide LX).size
              have hlgX : lg < X.heap.size := (rX.lt lg rfl).2
              clear n3 o3 DV d0 d1 d2 d3 d4 HXW
              have EH : Hid ((X.alloc (.cells #[] 39)).drew.heap[X.heap.size]? = some (.cells #[] 39 (0, 0))) := heap_alloc_new X _
              have BXE : Hid (Below X.heap.size X (X.alloc (.cells #[] 39)).drew) := ((Below.refl _ X).alloc (Nat.le_refl _) _).drew
              have EHB : Hid (w.heap.size ≤ (X.alloc (.cells #[] 39)).drew.heap.size) := Nat.le_trans sX (unhide BXE).size
              have LRE := hide (rX.below (unhide BXE))
              have CT1 : Hid (∀ j u, (flat3 (ms.take at'))[j]? = some u → (X.alloc (.cells #[] 39)).drew.cell? ((⟨lg, 0, none⟩ : Addr).add j) = some u) := fun j u hj => by
                rw [Addr.add_lit, Nat.zero_add]; exact (unhide LRE).cells j u (flat3_take hj)
              have LB5 : Hid (∀ w5, (X.alloc (.cells #[] 39)).drew.grownBy w5 (Value.slice (some ⟨X.heap.size, 0, none⟩) 0 0).ownBlock → Lr w.heap.size w5 (.slice (some ⟨lg, 0, none⟩) ms.length lcap) ms) := fun w5 g5 =>
                (unhide LRE).beside g5 (fun q hq e => by
                  have h1 : q = lg := by simpa [Value.ownBlock] using hq.symm
                  have h2 : X.heap.size = q := by simpa [Value.ownBlock] using e
                  exact ne2 h1 h2 hlgX)
              obtain ⟨z1, z2, z5, zw, zx, zt, zl⟩ := zz hlt' hms1 hlc
              obtain ⟨mz, hmz⟩ : ∃ mz, ms.eraseIdx at' = mz := ⟨_, rfl⟩
              have E6 : Hid ([] ++ ms.take at' ++ ms.drop (at' + 1) = mz) := by show _ = _; rw [← hmz, List.nil_append, List.eraseIdx_eq_take_drop_succ]
              have HE6 : Hid (mz.length + 1 = ms.length) := by show _ = _; rw [← hmz]; exact len_erase hlt'
              have WE6 : Hid (AllWf mz) := by show AllWf _; rw [← hmz]; exact (unhide HP).wfm.erase at'
              rw [hmz] at NX
              clear hmz
              by_cases hend : at' + 1 = lcap
              · have hnl : ms.length = at' + 1 := zn hlt' hlc hend
                have hde : ms.drop (at' + 1) = [] := List.drop_eq_nil_of_le (Nat.le_of_eq hnl)
                have HDE := hide hde
                subst hend
                have z6 : (at' : Int) ≤ (at' : Int) + 1 := zi at'
                as_aux_lemma =>
                  go_upto_region 36 with fail
                  go_region_held_law (fun _ => True) (trivial) (first
                    | (refine step_rows (.tmp 153) (.tmp 156) rfl rfl ?_
                       refine wp_rows (.tmp 153) (.tmp 156) rfl w.heap.size (.slice (some ⟨X.heap.size, 0, none⟩) 0 0) [] (ms.take at') rfl (Lr.empty sX (unhide EH)) ⟨lg, 0, none⟩ at' (at' + 1) (len_take hlt') rfl (unhide CT1) (bd1 hlt' hms1) (unhide EHB) ?_
                       intro v5 w5 r5 g5 h5
                       obtain ⟨vao, vcap, rfl, _, _, _⟩ := r5.slice
                       have R5 := hide r5
                       have G5 := hide g5
                       have LR5 := hide (unhide LB5 w5 g5)
                       have HB5 : Hid (w.heap.size ≤ w5.heap.size) := Nat.le_trans (unhide EHB) g5.size
                       clear r5 g5 h5)
                    | (refine step_rows (.tmp 157) (.tmp 161) rfl rfl ?_
                       refine wp_rows (.tmp 157) (.tmp 161) rfl w.heap.size _ ([] ++ ms.take at') (ms.drop (at' + 1)) rfl (unhide R5) ⟨lg, 0, none⟩ 0 0 (by rw [unhide HDE]; rfl) rfl (fun j u hj => (by rw [unhide HDE] at hj; simp [flat3] at hj)) (bd2 hlt' hms1 (Nat.zero_le _)) (unhide HB5) ?_
                       intro v6 w6 r6 g6 h6
                       rw [unhide E6] at r6
                       obtain ⟨uao, ucap, rfl, _, _, _⟩ := r6.slice
                       have R6 := hide r6
                       have G6 := hide g6
                       clear r6 g6 h6))
                  all_goals
                    have o5 := grown_only (Lr.empty sX (unhide EH)) (unhide G5) (unhide EHB) (Nat.le_refl _)
                    have o6 := grown_only (unhide R5) (unhide G6) (unhide HB5) (Nat.le_refl _)
                    have o7 : Only w.heap.size [39] X w6 := ((Only.of_below (unhide BXE) sX).trans o5).trans o6
                  all_goals
                    have PZ : Hid (Pl w w6 w.heap.size (k + 1) made (lost + 1) mz on sl (.slice uao mz.length ucap) (.slice sao sl.length scap)) := ⟨⟨_, (unhide NX).only o7 (by decide) (by decide) (by decide)⟩, unhide R6, (unhide IX).only o7 (by decide), (unhide HP).few, (unhide HP).wfs, unhide WE6, cn1 (unhide HP).cnt (unhide HE6), Nat.le_succ_of_le (unhide HP).md, (unhide LX).trans o7.1⟩
                    clear o5 o6 o7 R6 G6 R5 G5 LR5 NX IX LX EH BXE EHB LRE CT1 LB5 rX
                  all_goals (
                    obtain ⟨lz, hlz⟩ : ∃ lz : Nat, (lost + 1) = lz := ⟨_, rfl⟩
                    rw [hlz] at PZ
                    obtain ⟨bz, nz⟩ := (unhide PZ).net
                    have LST := hide (lost_any _ nz)
                    have LEN := hide (len_any _ nz)
                    have e6 : mz.length ≤ 200 := by have := (unhide PZ).cnt; omega
                    have e7 : lz ≤ 200 := by have := (unhide PZ).cnt; omega
                    have e8 : ((lost : Int) + 1) = (lz : Int) := by omega
                    clear nz hlz
                    as_aux_lemma =>
                      go_wp2_with fail
                      refine (unhide LEN).mono ?_
                      rintro e wa ⟨rfl, rfl⟩
                      as_aux_lemma =>
                        go_wp2_with fail
                        refine (unhide LST).mono ?_
                        rintro e wb ⟨rfl, rfl⟩
                        as_aux_lemma =>
                          go_wp2
                          go_roundg (100 - (k + 1))
                          case measure => have := unhide HG; omega
                          case rel => exact ⟨k + 1, made, lz, mz, on, sl, by omega, by omega, by go_num, by first | go_num | rfl, by first | rfl | (simp; omega) | go_num, rfl, unhide PZ⟩)
              · have z3 : ¬ lcap = at' + 1 := fun h => hend h.symm
                have z4 : at' + 1 ≤ lcap := Nat.le_trans z2 hlc
                as_aux_lemma =>
                  go_upto_region 36 with fail
                  go_region_held_law (fun _ => True) (trivial) (first
                    | (refine step_rows (.tmp 153) (.tmp 156) rfl rfl ?_
                       refine wp_rows (.tmp 153) (.tmp 156) rfl w.heap.size (.slice (some ⟨X.heap.size, 0, none⟩) 0 0) [] (ms.take at') rfl (Lr.empty sX (unhide EH)) ⟨lg, 0, none⟩ at' lcap (len_take hlt') rfl (unhide CT1) (bd1 hlt' hms1) (unhide EHB) ?_
                       intro v5 w5 r5 g5 h5
                       obtain ⟨vao, vcap, rfl, _, _, _⟩ := r5.slice
                       have R5 := hide r5
                       have G5 := hide g5
                       have LR5 := hide (unhide LB5 w5 g5)
                       have HB5 : Hid (w.heap.size ≤ w5.heap.size) := Nat.le_trans (unhide EHB) g5.size
                       clear r5 g5 h5)
                    | (refine step_rows (.tmp 157) (.tmp 161) rfl rfl ?_
                       refine wp_rows (.tmp 157) (.tmp 161) rfl w.heap.size _ ([] ++ ms.take at') (ms.drop (at' + 1)) rfl (unhide R5) ⟨lg, (at' + 1) * 3, none⟩ (ms.length - (at' + 1)) (lcap - (at' + 1)) (len_drop _ _) rfl (fun j u hj => (by rw [Addr.add_lit]; exact (unhide LR5).cells _ _ (flat3_drop z2 hj))) (bd2 hlt' hms1 (Nat.sub_le _ _)) (unhide HB5) ?_
                       intro v6 w6 r6 g6 h6
                       rw [unhide E6] at r6
                       obtain ⟨uao, ucap, rfl, _, _, _⟩ := r6.slice
                       have R6 := hide r6
                       have G6 := hide g6
                       clear r6 g6 h6))
                  all_goals
                    have o5 := grown_only (Lr.empty sX (unhide EH)) (unhide G5) (unhide EHB) (Nat.le_refl _)
                    have o6 := grown_only (unhide R5) (unhide G6) (unhide HB5) (Nat.le_refl _)
                    have o7 : Only w.heap.size [39] X w6 := ((Only.of_below (unhide BXE) sX).trans o5).trans o6
                  all_goals
                    have PZ : Hid (Pl w w6 w.heap.size (k + 1) made (lost + 1) mz on sl (.slice uao mz.length ucap) (.slice sao sl.length scap)) := ⟨⟨_, (unhide NX).only o7 (by decide) (by decide) (by decide)⟩, unhide R6, (unhide IX).only o7 (by decide), (unhide HP).few, (unhide HP).wfs, unhide WE6, cn1 (unhide HP).cnt (unhide HE6), Nat.le_succ_of_le (unhide HP).md, (unhide LX).trans o7.1⟩
                    clear o5 o6 o7 R6 G6 R5 G5 LR5 NX IX LX EH BXE EHB LRE CT1 LB5 rX
                  all_goals (
                    obtain ⟨lz, hlz⟩ : ∃ lz : Nat, (lost + 1) = lz := ⟨_, rfl⟩
                    rw [hlz] at PZ
                    obtain ⟨bz, nz⟩ := (unhide PZ).net
                    have LST := hide (lost_any _ nz)
                    have LEN := hide (len_any _ nz)
                    have e6 : mz.length ≤ 200 := by have := (unhide PZ).cnt; omega
                    have e7 : lz ≤ 200 := by have := (unhide PZ).cnt; omega
                    have e8 : ((lost : Int) + 1) = (lz : Int) := by omega
                    clear nz hlz
                    as_aux_lemma =>
                      go_wp2_with fail
                      refine (unhide LEN).mono ?_
                      rintro e wa ⟨rfl, rfl⟩
                      as_aux_lemma =>
                        go_wp2_with fail
                        refine (unhide LST).mono ?_
                        rintro e wb ⟨rfl, rfl⟩
                        as_aux_lemma =>
                          go_wp2
                          go_roundg (100 - (k + 1))
                          case measure => have := unhide HG; omega
                          case rel => exact ⟨k + 1, made, lz, mz, on, sl, by omega, by omega, by go_num, by first | go_num | rfl, by first | rfl | (simp; omega) | go_num, rfl, unhide PZ⟩)
      · skip
        as_aux_lemma =>
          obtain ⟨bs, n2⟩ := (unhide HP).net
          by_cases hms : ms = []
          · subst hms
            have DV := hide (double_none nn W2 n2)
            clear n2
            have PZ := hide (unhide HP).up
            go_wp2_with fail
            refine (unhide DV).mono ?_
            rintro e w3 ⟨rfl, rfl⟩
            clear DV d0 d1 d2 d3 d4
            obtain ⟨bz, nz⟩ := (unhide PZ).net
            have LST := hide (lost_any _ nz)
            have LEN := hide (len_any _ nz)
            have e7 : lost ≤ 200 := by have := (unhide PZ).cnt; omega
            clear nz
            as_aux_lemma =>
              go_wp2_with fail
              refine (unhide LEN).mono ?_
              rintro e wa ⟨rfl, rfl⟩
              as_aux_lemma =>
                go_wp2_with fail
                refine (unhide LST).mono ?_
                rintro e wb ⟨rfl, rfl⟩
                as_aux_lemma =>
                  go_wp2
                  go_roundg (100 - (k + 1))
                  case measure => have := unhide HG; omega
                  case rel => exact ⟨k + 1, made, lost, [], on, sl, by omega, by omega, by go_num, by first | go_num | rfl, by first | rfl | (simp; omega) | go_num, rfl, unhide PZ⟩
          · obtain ⟨hat, hlt'⟩ := unhide HAT hms
            obtain ⟨m, hm⟩ : ∃ m, ms[at']? = some m := ⟨_, List.getElem?_eq_getElem hlt'⟩
            obtain ⟨lg, rfl, hlg, hlgs, hlb⟩ := unhide HLN hms
            have DV := hide (double_ok W2 n2 (by omega) hat hm s1)
            have WFM := hide ((unhide HP).wfm.snoc ((unhide HP).wfm m (List.mem_of_getElem? hm)))
            have hl0 : 0 < ms.length := by omega
            clear n2 hat
            as_aux_lemma =>
              go_wp2_with fail
              refine (unhide DV).mono ?_
              rintro e X ⟨rfl, ⟨bs3, n3⟩, o3⟩
              have rX := (unhide HP).row.only o3 (by decide)
              have NX := hide n3
              have LX := hide ((unhide HP).low.trans o3.1)
              have IX := hide ((unhide HP).side.only o3 (by decide))
              have sX := (unhide LX).size
              have hlgX : lg < X.heap.size := (rX.lt lg rfl).2
              have SX := hide (fun (Y : World) (h : Lr w.heap.size Y (.slice (some ⟨lg, 0, none⟩) ms.length lcap) ms) => h.at hm)
              have LR0 := hide (rX.below (Below.refl _ X).drew)
              have LRA := hide (fun o => rX.below ((Below.refl X.heap.size X).alloc (Nat.le_refl _) o).drew)
              have BAA := hide (fun o o' => show Below X.heap.size X ((X.alloc o).alloc o').drew from (((Below.refl X.heap.size X).alloc (Nat.le_refl _) o).alloc ((Below.refl X.heap.size X).alloc (Nat.le_refl _) o).size o').drew)
              have LRAA := hide (fun o o' => rX.below (unhide BAA o o'))
              have EH1 : Hid ((X.alloc (.cells #[] 39)).drew.heap[X.heap.size]? = some (.cells #[] 39 (0, 0))) := heap_alloc_new X _
              have EH2 : Hid (((X.alloc (.cells #[] 39)).alloc (.cells #[.int .i64 m.f, .int .i64 m.t, .int .i64 m.i] 39)).drew.heap[X.heap.size]? = some (.cells #[] 39 (0, 0))) :=
                (Below.heap_alloc (X.alloc (.cells #[] 39)) _ X.heap.size (by simp)).trans (heap_alloc_new X _)
              have ET2 : Hid (((X.alloc (.cells #[] 39)).alloc (.cells #[.int .i64 m.f, .int .i64 m.t, .int .i64 m.i] 39)).drew.heap[X.heap.size + 1]? = some (.cells #[.int .i64 m.f, .int .i64 m.t, .int .i64 m.i] 39 (0, 0))) := by
                have := heap_alloc_new (X.alloc (.cells #[] 39)) (.cells #[.int .i64 m.f, .int .i64 m.t, .int .i64 m.i] 39)
                rw [show (X.alloc (.cells #[] 39)).heap.size = X.heap.size + 1 by simp] at this
                exact this
              have EH3 : Hid (((X.alloc (.cells #[.int .i64 m.f, .int .i64 m.t, .int .i64 m.i] 39)).alloc (.cells #[] 39)).drew.heap[X.heap.size + 1]? = some (.cells #[] 39 (0, 0))) := by
                have := heap_alloc_new (X.alloc (.cells #[.int .i64 m.f, .int .i64 m.t, .int .i64 m.i] 39)) (.cells #[] 39)
                rw [show (X.alloc (.cells #[.int .i64 m.f, .int .i64 m.t, .int .i64 m.i] 39)).heap.size = X.heap.size + 1 by simp] at this
                exact this
              have ET3 : Hid (((X.alloc (.cells #[.int .i64 m.f, .int .i64 m.t, .int .i64 m.i] 39)).alloc (.cells #[] 39)).drew.heap[X.heap.size]? = some (.cells #[.int .i64 m.f, .int .i64 m.t, .int .i64 m.i] 39 (0, 0))) :=
                (Below.heap_alloc (X.alloc (.cells #[.int .i64 m.f, .int .i64 m.t, .int .i64 m.i] 39)) _ X.heap.size (by simp)).trans (heap_alloc_new X _)
              have NEW := hide (fun (Y : World) (b : Nat) (h : Y.heap[b]? = some (.cells #[.int .i64 m.f, .int .i64 m.t, .int .i64 m.i] 39 (0, 0))) => show ∀ j u, (flat3 [m])[j]? = some u → Y.cell? ((⟨b, 0, none⟩ : Addr).add j) = some u from fun j u hj => by
                rw [Addr.add_lit, Nat.zero_add, cell_of_block h]
                have e3 : flat3 [m] = (#[.int .i64 m.f, .int .i64 m.t, .int .i64 m.i] : Array Value).toList := rfl
                rw [e3, Array.getElem?_toList] at hj; exact hj)
              have SAA : Hid (∀ o o', w.heap.size ≤ ((X.alloc o).alloc o').drew.heap.size) := fun o o' => Nat.le_trans sX (unhide BAA o o').size
              have SA : Hid (∀ o, w.heap.size ≤ (X.alloc o).drew.heap.size) := fun o => Nat.le_trans sX ((Below.refl X.heap.size X).alloc (Nat.le_refl _) o).drew.size
              have BES : Hid (∀ (Y w5 : World) (b : Nat), Lr w.heap.size Y (.slice (some ⟨lg, 0, none⟩) ms.length lcap) ms → b ≠ lg → Y.grownBy w5 (Value.slice (some ⟨b, 0, none⟩) 0 0).ownBlock → Lr w.heap.size w5 (.slice (some ⟨lg, 0, none⟩) ms.length lcap) ms) := fun Y w5 b h hb g5 =>
                h.beside g5 (fun q hq e => hb (by
                  have h1 : q = lg := by simpa [Value.ownBlock] using hq.symm
                  have h2 : b = q := by simpa [Value.ownBlock] using e
                  omega))
              obtain ⟨q0, q1, q2⟩ := rX.at hm
              clear n3 o3 DV d0 d1 d2 d3 d4 HXW hm
              as_aux_lemma =>
                go_upto_region 42 with fail
                go_region_held_law (fun x => x.cell? ⟨lg, at' * 3, none⟩ = some (.int .i64 m.f) ∧ x.cell? ⟨lg, at' * 3 + 1, none⟩ = some (.int .i64 m.t) ∧ x.cell? ⟨lg, at' * 3 + 2, none⟩ = some (.int .i64 m.i))
                  (first | exact unhide SX _ (unhide LR6) | exact unhide SX _ (unhide LRT) | exact unhide SX _ (unhide LR5) | exact unhide SX _ (unhide LRAA _ _) | exact unhide SX _ (unhide LRA _) | exact unhide SX _ (unhide LR0))
                  (first
                    | (refine step_rows (.tmp 179) (.tmp 180) rfl rfl ?_
                       refine wp_rows (w := (X.alloc (.cells #[] 39)).drew) (.tmp 179) (.tmp 180) rfl w.heap.size (.slice (some ⟨X.heap.size, 0, none⟩) 0 0) [] ms rfl (Lr.empty (Nat.le_trans sX (by omega)) (unhide EH1)) ⟨lg, 0, none⟩ ms.length lcap rfl rfl (fun j u hj => by rw [Addr.add_lit, Nat.zero_add]; exact (unhide LRA (.cells #[] 39)).cells j u hj) (by simp; omega) (unhide SA (.cells #[] 39)) ?_
                       intro v5 w5 r5 g5 h5
                       have NE5 : Hid (∀ q, (Value.slice (some ⟨lg, 0, none⟩) ms.length lcap).ownBlock = some q → v5.ownBlock ≠ some q) := fun q hq e => by
                         have h1 : lg = q := by simpa [Value.ownBlock] using hq
                         rcases h5 with h | h
                         · rw [e] at h; simp [Value.ownBlock] at h; omega
                         · rw [e] at h; simp at h; omega
                       have LR5 := hide (unhide BES _ _ _ (unhide LRA (.cells #[] 39)) (by omega) g5)
                       obtain ⟨vao, vcap, rfl, _, _, _⟩ := r5.slice
                       have R5 := hide r5
                       have HB5 : Hid (w.heap.size ≤ w5.heap.size) := Nat.le_trans (unhide SA (.cells #[] 39)) g5.size
                       have O5 : Hid (Only w.heap.size [39] X w5) := (Only.of_below (((Below.refl X.heap.size X).alloc (Nat.le_refl _) (.cells #[] 39)).drew) sX).trans (grown_only (Lr.empty (Nat.le_trans sX (by omega)) (unhide EH1)) g5 (unhide SA (.cells #[] 39)) (Nat.le_refl _))
                       have LRT := hide ((unhide LR5).below ((Below.refl w5.heap.size w5).alloc (Nat.le_refl _) (.cells #[.int .i64 m.f, .int .i64 m.t, .int .i64 m.i] 39)))
                       have HBT : Hid (w.heap.size ≤ (w5.alloc (.cells #[.int .i64 m.f, .int .i64 m.t, .int .i64 m.i] 39)).heap.size) := Nat.le_trans (unhide HB5) ((Below.refl w5.heap.size w5).alloc (Nat.le_refl _) _).size
                       clear r5 g5 h5)
                    | (refine step_rows (.tmp 179) (.tmp 180) rfl rfl ?_
                       refine wp_rows (w := ((X.alloc (.cells #[] 39)).alloc (.cells #[.int .i64 m.f, .int .i64 m.t, .int .i64 m.i] 39)).drew) (.tmp 179) (.tmp 180) rfl w.heap.size (.slice (some ⟨X.heap.size, 0, none⟩) 0 0) [] ms rfl (Lr.empty (Nat.le_trans sX (by omega)) (unhide EH2)) ⟨lg, 0, none⟩ ms.length lcap rfl rfl (fun j u hj => by rw [Addr.add_lit, Nat.zero_add]; exact (unhide LRAA (.cells #[] 39) (.cells #[.int .i64 m.f, .int .i64 m.t, .int .i64 m.i] 39)).cells j u hj) (by simp; omega) (unhide SAA (.cells #[] 39) (.cells #[.int .i64 m.f, .int .i64 m.t, .int .i64 m.i] 39)) ?_
                       intro v5 w5 r5 g5 h5
                       have NE5 : Hid (∀ q, (Value.slice (some ⟨lg, 0, none⟩) ms.length lcap).ownBlock = some q → v5.ownBlock ≠ some q) := fun q hq e => by
                         have h1 : lg = q := by simpa [Value.ownBlock] using hq
                         rcases h5 with h | h
                         · rw [e] at h; simp [Value.ownBlock] at h; omega
                         · rw [e] at h; simp at h; omega
                       have LR5 := hide (unhide BES _ _ _ (unhide LRAA (.cells #[] 39) (.cells #[.int .i64 m.f, .int .i64 m.t, .int .i64 m.i] 39)) (by omega) g5)
                       obtain ⟨vao, vcap, rfl, _, _, _⟩ := r5.slice
                       have R5 := hide r5
                       have HB5 : Hid (w.heap.size ≤ w5.heap.size) := Nat.le_trans (unhide SAA (.cells #[] 39) (.cells #[.int .i64 m.f, .int .i64 m.t, .int .i64 m.i] 39)) g5.size
                       have O5 : Hid (Only w.heap.size [39] X w5) := (Only.of_below (unhide BAA (.cells #[] 39) (.cells #[.int .i64 m.f, .int .i64 m.t, .int .i64 m.i] 39)) sX).trans (grown_only (Lr.empty (Nat.le_trans sX (by omega)) (unhide EH2)) g5 (unhide SAA (.cells #[] 39) (.cells #[.int .i64 m.f, .int .i64 m.t, .int .i64 m.i] 39)) (Nat.le_refl _))
                       have T5 := hide (unhide NEW w5 (X.heap.size + 1) ((g5.block (X.heap.size + 1) (blk_lt' (unhide ET2)) (by simp [Value.ownBlock])).trans (unhide ET2)))
                       clear r5 g5 h5)
                    | (refine step_rows (.tmp 179) (.tmp 180) rfl rfl ?_
                       refine wp_rows (w := ((X.alloc (.cells #[.int .i64 m.f, .int .i64 m.t, .int .i64 m.i] 39)).alloc (.cells #[] 39)).drew) (.tmp 179) (.tmp 180) rfl w.heap.size (.slice (some ⟨X.heap.size + 1, 0, none⟩) 0 0) [] ms rfl (Lr.empty (Nat.le_trans sX (by omega)) (unhide EH3)) ⟨lg, 0, none⟩ ms.length lcap rfl rfl (fun j u hj => by rw [Addr.add_lit, Nat.zero_add]; exact (unhide LRAA (.cells #[.int .i64 m.f, .int .i64 m.t, .int .i64 m.i] 39) (.cells #[] 39)).cells j u hj) (by simp; omega) (unhide SAA (.cells #[.int .i64 m.f, .int .i64 m.t, .int .i64 m.i] 39) (.cells #[] 39)) ?_
                       intro v5 w5 r5 g5 h5
                       have NE5 : Hid (∀ q, (Value.slice (some ⟨lg, 0, none⟩) ms.length lcap).ownBlock = some q → v5.ownBlock ≠ some q) := fun q hq e => by
                         have h1 : lg = q := by simpa [Value.ownBlock] using hq
                         rcases h5 with h | h
                         · rw [e] at h; simp [Value.ownBlock] at h; omega
                         · rw [e] at h; simp at h; omega
                       have LR5 := hide (unhide BES _ _ _ (unhide LRAA (.cells #[.int .i64 m.f, .int .i64 m.t, .int .i64 m.i] 39) (.cells #[] 39)) (by omega) g5)
                       obtain ⟨vao, vcap, rfl, _, _, _⟩ := r5.slice
                       have R5 := hide r5
                       have HB5 : Hid (w.heap.size ≤ w5.heap.size) := Nat.le_trans (unhide SAA (.cells #[.int .i64 m.f, .int .i64 m.t, .int .i64 m.i] 39) (.cells #[] 39)) g5.size
                       have O5 : Hid (Only w.heap.size [39] X w5) := (Only.of_below (unhide BAA (.cells #[.int .i64 m.f, .int .i64 m.t, .int .i64 m.i] 39) (.cells #[] 39)) sX).trans (grown_only (Lr.empty (Nat.le_trans sX (by omega)) (unhide EH3)) g5 (unhide SAA (.cells #[.int .i64 m.f, .int .i64 m.t, .int .i64 m.i] 39) (.cells #[] 39)) (Nat.le_refl _))
                       have T5 := hide (unhide NEW w5 X.heap.size ((g5.block X.heap.size (blk_lt' (unhide ET3)) (by simp [Value.ownBlock])).trans (unhide ET3)))
                       clear r5 g5 h5)
                    | (refine step_rows (.tmp 181) (.tmp 186) rfl rfl ?_
                       refine wp_rows (.tmp 181) (.tmp 186) rfl w.heap.size _ ([] ++ ms) [m] rfl (unhide R5) _ 1 1 rfl rfl (unhide T5) (by simp; omega) (unhide HB5) ?_
                       intro v6 w6 r6 g6 h6
                       obtain ⟨uao, ucap, rfl, _, _, _⟩ := r6.slice
                       have R6 := hide r6
                       have LR6 := hide ((unhide LR5).beside g6 (fun q hq e => unhide NE5 q hq e))
                       have O6 := hide ((unhide O5).trans (grown_only (unhide R5) g6 (unhide HB5) (Nat.le_refl _)))
                       clear r6 g6 h6)
                    | (refine step_rows (.tmp 181) (.tmp 186) rfl rfl ?_
                       refine wp_rows (.tmp 181) (.tmp 186) rfl w.heap.size _ ([] ++ ms) [m] rfl ((unhide R5).below ((Below.refl _ w5).alloc (Nat.le_refl _) _)) ⟨w5.heap.size, 0, none⟩ 1 1 rfl rfl (unhide NEW _ _ (heap_alloc_new w5 _)) (by simp; omega) (unhide HBT) ?_
                       intro v6 w6 r6 g6 h6
                       obtain ⟨uao, ucap, rfl, _, _, _⟩ := r6.slice
                       have R6 := hide r6
                       have LR6 := hide ((unhide LRT).beside g6 (fun q hq e => unhide NE5 q hq e))
                       have O6 := hide (((unhide O5).trans (Only.of_below ((Below.refl w5.heap.size w5).alloc (Nat.le_refl _) _) (unhide HB5))).trans (grown_only ((unhide R5).below ((Below.refl _ w5).alloc (Nat.le_refl _) _)) g6 (unhide HBT) (Nat.le_refl _)))
                       clear r6 g6 h6))
                all_goals
                  have r6 := unhide R6
                  have PZ : Hid (Pl w w6 w.heap.size (k + 1) made lost ([] ++ ms ++ [m]) on sl (.slice uao ([] ++ ms ++ [m]).length ucap) (.slice sao sl.length scap)) := ⟨⟨_, (unhide NX).only (unhide O6) (by decide) (by decide) (by decide)⟩, r6, (unhide IX).only (unhide O6) (by decide), (unhide HP).few, (unhide HP).wfs, unhide WFM, by have := (unhide HP).cnt; simp; omega, Nat.le_succ_of_le (unhide HP).md, (unhide LX).trans (unhide O6).1⟩
                  clear r6 R6 R5 LR5 NX IX LX O6 q0 q1 q2 LRAA LRA LR0 BAA SX EH1 EH2 EH3 ET2 ET3 NEW SAA SA BES rX
                all_goals (
                  obtain ⟨mz, hmz⟩ : ∃ mz, [] ++ ms ++ [m] = mz := ⟨_, rfl⟩
                  obtain ⟨lz, hlz⟩ : ∃ lz : Nat, lost = lz := ⟨_, rfl⟩
                  rw [hmz, hlz] at PZ
                  have hln : mz.length = ms.length + 1 := by rw [← hmz]; simp
                  have hln2 : (mz.length : Int) = (ms.length : Int) + 1 := by omega
                  rw [hln] at PZ
                  obtain ⟨bz, nz⟩ := (unhide PZ).net
                  have LST := hide (lost_any _ nz)
                  have LEN := hide (len_any _ nz)
                  have e6 : mz.length ≤ 200 := by have := (unhide PZ).cnt; omega
                  have e7 : lz ≤ 200 := by have := (unhide PZ).cnt; omega
                  have e8 : ((lost : Int)) = (lz : Int) := by omega
                  clear nz hmz hlz
                  as_aux_lemma =>
                    go_wp2_with fail
                    refine (unhide LEN).mono ?_
                    rintro e wa ⟨rfl, rfl⟩
                    as_aux_lemma =>
                      go_wp2_with fail
                      refine (unhide LST).mono ?_
                      rintro e wb ⟨rfl, rfl⟩
                      as_aux_lemma =>
                        go_wp2
                        go_roundg (100 - (k + 1))
                        case measure => have := unhide HG; omega
                        case rel => exact ⟨k + 1, made, lz, mz, on, sl, by omega, by omega, by go_num, by first | go_num | rfl, by first | rfl | (simp; omega) | go_num, rfl, unhide PZ⟩)
      · skip
        as_aux_lemma =>
          obtain ⟨wq, hwq⟩ : ∃ wq, wq = wr := ⟨_, rfl⟩
          subst hwq
          have hyl := unhide HYL
          subst hyl
          have hwrs : wq.heap.size < W2.heap.size := blk_lt d4
          obtain ⟨bs, n2⟩ := (unhide HP).net
          have bE : Below W2.heap.size W2 (W2.alloc (.cells #[] 3)) := (Below.refl _ W2).alloc (Nat.le_refl _) _
          have dE : (W2.alloc (.cells #[] 3)).cell? ⟨wq.heap.size, 4, none⟩ = some (.slice r ys.length cx) := by rw [bE.cell hwrs]; exact d4
          have SE : Hid (w.heap.size ≤ (W2.alloc (.cells #[] 3)).heap.size) := Nat.le_trans s1 bE.size
          have IE := hide (unhide HYW _ ((unhide HP).low.trans (bE.mono s1)))
          have NE := hide (n2.below bE)
          have RE := hide ((unhide HP).row.below bE)
          have LE := hide ((unhide HP).low.trans (bE.mono s1))
          have XE := hide ((bE.block wq.heap.size hwrs).trans (unhide HXW))
          clear n2 bE
          as_aux_lemma =>
            go_upto_region 45 with (first | (at_builtin; refine wpList_ints rfl _ _ rfl w.heap.size W2.heap.size rfl (Ir.empty s1 (heap_alloc_new W2 _)) r ys.length cx ys rfl rfl (unhide IE) (by omega) (unhide SE) ?_; intro v3 w3 r3 g3) | go_in)
            have o3 := grown_only (Ir.empty s1 (heap_alloc_new W2 _)) g3 (unhide SE) (Nat.le_refl _)
            have n3 := (unhide NE).only o3 (by decide) (by decide) (by decide)
            have l3 := (unhide LE).trans o3.1
            obtain ⟨mao, mcap, rfl, _, _, _⟩ := r3.slice
            have CT := hide (cut_any (ao := mao) (cap := mcap) w3 n3 (unhide HP).wfm (by omega) (by omega) l3.size rfl (by omega) (unhide HYF) (fun w' ho => (r3.only ho (by decide)).ints))
            have R3 := hide r3
            have N3 := hide ((unhide RE).only o3 (by decide))
            have L3 := hide l3
            have X3 := hide (o3.block (unhide XE) (by decide))
            clear o3 n3 l3 r3 g3 NE RE LE XE IE SE dE d0 d1 d2 d3 d4
            as_aux_lemma =>
              go_wp2_with fail
              refine (unhide CT).mono ?_
              rintro e w4 ⟨rfl, ⟨bs4, n4⟩, o4⟩
              have N4 := hide n4
              have R4 := hide ((unhide N3).only o4 (by decide))
              have L4 := hide ((unhide L3).trans o4.1)
              have X4 := hide (o4.block (unhide X3) (by decide))
              obtain ⟨mao', mcap', em, _, hmb, hmn⟩ := ((unhide R3).only o4 (by decide)).slice
              obtain ⟨rfl, _, rfl⟩ : mao' = mao ∧ ys.length = ys.length ∧ mcap' = mcap := by cases em; exact ⟨rfl, rfl, rfl⟩
              have HMB := hide hmb
              have HMN := hide hmn
              have HCT := hide (filter_count ys ms)
              clear n4 o4 CT R3 N3 L3 X3 hmb hmn em
              as_aux_lemma =>
                go_wp2_with fail
                go_loopg [17] ys.length (fun gg jv wx => ∃ j : Nat, j + gg = ys.length ∧ jv = .int .i64 (j : Int) ∧ Only w.heap.size [3] w4 wx ∧ (∀ a, mao' = some a → ∃ g cur, a = ⟨g, 0, none⟩ ∧ w.heap.size ≤ g ∧ wx.heap[g]? = some (.cells cur 3 (0, 0)) ∧ ys.length ≤ cur.size))
                case atStart => exact ⟨0, by omega, rfl, Only.refl _ _ _, unhide HMB⟩
                case round =>
                  obtain ⟨wx, hwx⟩ : ∃ wx, wx = wr := ⟨_, rfl⟩
                  subst hwx
                  obtain ⟨j, hgj, rfl, hox, hmx⟩ := hrel
                  by_cases hj : j < ys.length
                  · cases hma : mao' with
                    | none => have := unhide HMN hma; rw [this] at hj; simp at hj
                    | some a =>
                      obtain ⟨mg, cur, rfl, hmg, hmh, hms⟩ := hmx a hma
                      subst hma
                      obtain ⟨u, cu⟩ : ∃ u, wx.cell? ⟨mg, j, none⟩ = some u := ⟨_, (cell_of_block hmh).trans (Array.getElem?_eq_getElem (by omega))⟩
                      have fu : wx.frozen? ⟨mg, j, none⟩ = false := free_of_block hmh
                      have FIN : Hid (Only w.heap.size [3] w4 (wx.setCell ⟨mg, j, none⟩ (.int .i64 77)) ∧ (wx.setCell ⟨mg, j, none⟩ (.int .i64 77)).heap[mg]? = some (.cells (cur.setIfInBounds j (.int .i64 77)) 3 (0, 0)) ∧ ys.length ≤ (cur.setIfInBounds j (.int .i64 77)).size) :=
                        ⟨hox.setCell (p := ⟨mg, j, none⟩) hmg _ hmh (by simp), setCell_block hmh, by rw [Array.size_setIfInBounds]; exact hms⟩
                      have HGJ := hide hgj
                      clear hox hmx hmh hms hgj
                      as_aux_lemma =>
                        go_wp2
                        go_roundg (ys.length - (j + 1))
                        case measure => have := unhide HGJ; omega
                        case rel => exact ⟨j + 1, by omega, by go_num, (unhide FIN).1, fun a ha => by cases ha; exact ⟨mg, _, rfl, hmg, (unhide FIN).2.1, (unhide FIN).2.2⟩⟩
                  · obtain rfl : j = ys.length := by omega
                    have nx := (unhide N4).only hox (by decide) (by decide) (by decide)
                    have rx := (unhide R4).only hox (by decide)
                    have lx := (unhide L4).trans hox.1
                    have xx := hox.block (unhide X4) (by decide)
                    have sx := lx.size
                    have bE : Below wx.heap.size wx (wx.alloc (.cells #[] 3)) := (Below.refl _ wx).alloc (Nat.le_refl _) _
                    have dE : (wx.alloc (.cells #[] 3)).cell? ⟨wq.heap.size, 4, none⟩ = some (.slice r ys.length cx) := by rw [bE.cell (blk_lt' xx)]; exact (cell_of_block xx).trans rfl
                    have SE : Hid (w.heap.size ≤ (wx.alloc (.cells #[] 3)).heap.size) := Nat.le_trans sx bE.size
                    have IE := hide (unhide HYW _ (lx.trans (bE.mono sx)))
                    have NE := hide (nx.below bE)
                    have RE := hide (rx.below bE)
                    have LE := hide (lx.trans (bE.mono sx))
                    clear nx rx lx xx bE hox hmx hgj N4 R4 L4 X4
                    as_aux_lemma =>
                      go_upto_region 51 with (first | (at_builtin; refine wpList_ints rfl _ _ rfl w.heap.size wx.heap.size rfl (Ir.empty sx (heap_alloc_new wx _)) r ys.length cx ys rfl rfl (unhide IE) (by omega) (unhide SE) ?_; intro v5 w5 r5 g5) | go_in)
                      have o5 := grown_only (Ir.empty sx (heap_alloc_new wx _)) g5 (unhide SE) (Nat.le_refl _)
                      obtain ⟨nao, ncap, rfl, _, _, _⟩ := r5.slice
                      have R5 := hide r5
                      have N5 := hide ((unhide NE).only o5 (by decide) (by decide) (by decide))
                      have M5 := hide ((unhide RE).only o5 (by decide))
                      have L5 := hide ((unhide LE).trans o5.1)
                      clear o5 r5 g5 NE RE LE IE SE dE
                      as_aux_lemma =>
                        go_wp2_with fail
                        go_loopg [7, 18, 19] ms.length (fun gg lo lf jv wy => ∃ j L : Nat, j + gg = ms.length ∧ jv = .int .i64 (j : Int) ∧ lo = .int .i64 (L : Int) ∧ lost + lostN ys (ms.take j) = L ∧ Lr w.heap.size wy lf ((ms.take j).filter (passB ys)) ∧ (∀ q, lf.ownBlock = some q → (Value.slice lao ms.length lcap).ownBlock ≠ some q) ∧ Nt w.heap.size wy w.heap.size bs4 (ms.filter (passB ys)) ys (lost + lostN ys ms) ∧ Lr w.heap.size wy (.slice lao ms.length lcap) ms ∧ Ir w.heap.size wy (.slice nao ys.length ncap) ys ∧ Below w.heap.size w wy)
                        case atStart => exact ⟨0, lost, by omega, rfl, rfl, by simp [lostN], by simpa using Lr.nil _ _, fun q hq => by simp [Value.ownBlock] at hq, unhide N5, unhide M5, unhide R5, unhide L5⟩
                        case round =>
                          obtain ⟨wy, hwy⟩ : ∃ wy, wy = wr := ⟨_, rfl⟩
                          subst hwy
                          obtain ⟨j, L, hgj, rfl, rfl, hL, hlf, hne, hny, hmy, hiy, hly⟩ := hrel
                          have sy := hly.size
                          have hL2 : L ≤ 200 := by
                            have := List.length_filter_le (fun m => cutB ys m.f m.t) (ms.take j)
                            rw [List.length_take] at this
                            unfold lostN at hL; omega
                          obtain ⟨fao, fcap, rfl, hfc, hfm, _, _⟩ := hlf.slice
                          by_cases hj : j < ms.length
                          · obtain ⟨m, hm⟩ : ∃ m, ms[j]? = some m := ⟨_, List.getElem?_eq_getElem hj⟩
                            have hms : ms ≠ [] := fun e => by rw [e] at hj; simp at hj
                            obtain ⟨lg, hlg, _⟩ := unhide HLN hms
                            have etk : ms.take (j + 1) = ms.take j ++ [m] := by rw [List.take_add_one, hm]; rfl
                            have hfl : ((ms.take j).filter (passB ys)).length ≤ 200 := by
                              have := List.length_filter_le (passB ys) (ms.take j)
                              rw [List.length_take] at this; omega
                            rw [hlg] at hmy
                            obtain ⟨q0, q1, q2⟩ := hmy.at hm
                            rw [← hlg] at hmy
                            have LC := fun n => lcut_same (cap := ncap) true m.f m.t (wy.drewN n) rfl (show ys.length ≤ 1000000 by omega) ((hiy.below (drewN_below wy n)).ints)
                            simp only [Bool.true_and] at LC
                            have HNY := hide hny
                            have HMY := hide hmy
                            have HIY := hide hiy
                            have HLY := hide hly
                            have HLF := hide hlf
                            have HNE := hide hne
                            have HGJ := hide hgj
                            have HTK := hide etk
                            have HLL := hide hL
                            have hlg' := hlg
                            clear hny hmy hiy hly hlf hne hgj etk hL hm N5 M5 R5 L5
                            by_cases hcut : cutB ys m.f m.t = true
                            · have e1 : Hid (lost + lostN ys (ms.take (j + 1)) = L + 1 ∧ (ms.take (j + 1)).filter (passB ys) = (ms.take j).filter (passB ys)) := by
                                rw [show (ms.take (j + 1)) = ms.take j ++ [m] from unhide HTK]
                                have h1 := unhide HLL
                                constructor
                                · unfold lostN at h1 ⊢; rw [List.filter_append]; simp [hcut]; omega
                                · rw [List.filter_append]; simp [passB, hcut]
                              rw [hcut] at LC
                              have HLC := hide LC
                              clear LC hcut
                              subst hlg
                              as_aux_lemma =>
                                go_upto_region 55 with fail
                                go_quiet (first | (go_at_call 11; exact Calls.quiet_of_same (unhide HLC _)))
                                have bq := drewN_below wy nq
                                have FIN := hide (And.intro ((unhide HLF).below bq) (And.intro ((unhide HNY).below bq) (And.intro ((unhide HMY).below bq) (And.intro ((unhide HIY).below bq) ((unhide HLY).trans (bq.mono sy))))))
                                clear bq q0 q1 q2 HLC
                                as_aux_lemma =>
                                  go_wp2
                                  go_roundg (ms.length - (j + 1))
                                  case measure => have := unhide HGJ; omega
                                  case rel => exact ⟨j + 1, L + 1, by omega, by go_num, by go_num, (unhide e1).1, by rw [(unhide e1).2]; exact (unhide FIN).1, unhide HNE, (unhide FIN).2.1, (unhide FIN).2.2.1, (unhide FIN).2.2.2.1, (unhide FIN).2.2.2.2⟩
                            · rw [Bool.not_eq_true] at hcut
                              have e1 : Hid (lost + lostN ys (ms.take (j + 1)) = L ∧ (ms.take (j + 1)).filter (passB ys) = (ms.take j).filter (passB ys) ++ [m]) := by
                                rw [show (ms.take (j + 1)) = ms.take j ++ [m] from unhide HTK]
                                have h1 := unhide HLL
                                constructor
                                · unfold lostN at h1 ⊢; rw [List.filter_append]; simp [hcut]; omega
                                · rw [List.filter_append]; simp [passB, hcut]
                              rw [hcut] at LC
                              have HLC := hide LC
                              clear LC hcut
                              subst hlg
                              as_aux_lemma =>
                                go_upto_region 55 with fail
                                go_quiet (first | (go_at_call 11; exact Calls.quiet_of_same (unhide HLC _)))
                                obtain ⟨Y, hY⟩ : ∃ Y, wy.drewN nq = Y := ⟨_, rfl⟩
                                have bq : Below wy.heap.size wy Y := by rw [← hY]; exact drewN_below wy nq
                                rw [hY]
                                have t0 : Y.cell? ⟨lg, j * 3, none⟩ = some (.int .i64 m.f) := by rw [bq.cell (blk_lt q0)]; exact q0
                                have t1 : Y.cell? ⟨lg, j * 3 + 1, none⟩ = some (.int .i64 m.t) := by rw [bq.cell (blk_lt q1)]; exact q1
                                have t2 : Y.cell? ⟨lg, j * 3 + 2, none⟩ = some (.int .i64 m.i) := by rw [bq.cell (blk_lt q2)]; exact q2
                                have bT : Below Y.heap.size Y (Y.alloc (.cells #[.int .i64 m.f, .int .i64 m.t, .int .i64 m.i] 39)) := (Below.refl _ Y).alloc (Nat.le_refl _) _
                                have bq2 := bq.trans (bT.mono bq.size)
                                have LT := hide ((unhide HLF).below bq2)
                                have NT := hide ((unhide HNY).below bq2)
                                have MT := hide ((unhide HMY).below bq2)
                                have IT := hide ((unhide HIY).below bq2)
                                have YT := hide ((unhide HLY).trans (bq2.mono sy))
                                have NEW : Hid (∀ i u, (flat3 [m])[i]? = some u → (Y.alloc (.cells #[.int .i64 m.f, .int .i64 m.t, .int .i64 m.i] 39)).cell? ((⟨Y.heap.size, 0, none⟩ : Addr).add i) = some u) := fun i u hi => by
                                  rw [Addr.add_lit, Nat.zero_add, cell_of_block (heap_alloc_new Y _)]
                                  have e3 : flat3 [m] = (#[.int .i64 m.f, .int .i64 m.t, .int .i64 m.i] : Array Value).toList := rfl
                                  rw [e3, Array.getElem?_toList] at hi; exact hi
                                have hlY : lg < Y.heap.size := Nat.lt_of_lt_of_le (blk_lt q0) bq.size
                                clear bq bq2 bT q0 q1 q2 HLC hY HLF HNY HMY HIY HLY
                                as_aux_lemma =>
                                  go_upto_region 54 with (first | (at_builtin; refine wpList_rows rfl _ _ rfl w.heap.size _ ((ms.take j).filter (passB ys)) [m] rfl (unhide LT) ⟨Y.heap.size, 0, none⟩ 1 1 rfl rfl (unhide NEW) (by omega) (unhide YT).size ?_; intro v6 w6 r6 g6 h6) | go_in)
                                  have o6 := grown_only (unhide LT) g6 (unhide YT).size (Nat.le_refl _)
                                  have FIN : Hid (Lr w.heap.size w6 v6 ((ms.take j).filter (passB ys) ++ [m]) ∧ (∀ q, v6.ownBlock = some q → (Value.slice (some ⟨lg, 0, none⟩) ms.length lcap).ownBlock ≠ some q) ∧ Nt w.heap.size w6 w.heap.size bs4 (ms.filter (passB ys)) ys (lost + lostN ys ms) ∧ Lr w.heap.size w6 (.slice (some ⟨lg, 0, none⟩) ms.length lcap) ms ∧ Ir w.heap.size w6 (.slice nao ys.length ncap) ys ∧ Below w.heap.size w w6) := by
                                    refine ⟨r6, fun q hq e => ?_, (unhide NT).grownL (unhide LT) g6 (by decide) (by decide) (by decide), (unhide MT).beside g6 (fun q hq e => unhide HNE q e hq), (unhide IT).only o6 (by decide), (unhide YT).trans o6.1⟩
                                    rcases h6 with h | h
                                    · exact unhide HNE q (h ▸ hq) e
                                    · rw [h] at hq
                                      have h1 : lg = q := by simpa [Value.ownBlock] using e
                                      simp at hq; omega
                                  clear r6 g6 h6 o6 LT NT MT IT YT NEW t0 t1 t2
                                  as_aux_lemma =>
                                    go_wp2
                                    go_roundg (ms.length - (j + 1))
                                    case measure => have := unhide HGJ; omega
                                    case rel => exact ⟨j + 1, L, by omega, by go_num, rfl, (unhide e1).1, by rw [(unhide e1).2]; exact (unhide FIN).1, (unhide FIN).2.1, (unhide FIN).2.2.1, (unhide FIN).2.2.2.1, (unhide FIN).2.2.2.2.1, (unhide FIN).2.2.2.2.2⟩
                          · obtain rfl : j = ms.length := by omega
                            have et : ms.take ms.length = ms := List.take_length
                            rw [et] at hL hlf
                            have PZ : Hid (Pl w wy w.heap.size (k + 1) made L (ms.filter (passB ys)) true ys (.slice fao (ms.filter (passB ys)).length fcap) (.slice nao ys.length ncap)) := ⟨⟨_, by rw [← hL]; simpa using hny⟩, hlf, hiy, by omega, unhide HYF, (unhide HP).wfm.filter _, by have := unhide HCT; have := (unhide HP).cnt; omega, Nat.le_succ_of_le (unhide HP).md, hly⟩
                            rw [et]
                            obtain ⟨mz, hmz⟩ : ∃ mz, ms.filter (passB ys) = mz := ⟨_, rfl⟩
                            rw [hmz]
                            rw [hmz] at PZ
                            obtain ⟨bz, nz⟩ := (unhide PZ).net
                            have LST := hide (lost_any _ nz)
                            have LEN := hide (len_any _ nz)
                            have e6 : mz.length ≤ 200 := by have := (unhide PZ).cnt; omega
                            clear nz hmz hL hlf hne hny hmy hiy hly hgj et N5 M5 R5 L5
                            as_aux_lemma =>
                              go_wp2_with fail
                              refine (unhide LEN).mono ?_
                              rintro e wa ⟨rfl, rfl⟩
                              as_aux_lemma =>
                                go_wp2_with fail
                                refine (unhide LST).mono ?_
                                rintro e wb ⟨rfl, rfl⟩
                                as_aux_lemma =>
                                  go_wp2
                                  go_roundg (100 - (k + 1))
                                  case measure => have := unhide HG; omega
                                  case rel => exact ⟨k + 1, made, L, mz, true, ys, by omega, by omega, by go_num, rfl, rfl, rfl, unhide PZ⟩
      · skip
        as_aux_lemma =>
          obtain ⟨bs, n2⟩ := (unhide HP).net
          have HE := hide (heal_any W2 n2)
          clear n2
          go_wp2_with fail
          refine (unhide HE).mono ?_
          rintro e w3 ⟨rfl, n3, o3⟩
          have PZ : Hid (Pl w w3 w.heap.size (k + 1) made lost ms false sl (.slice lao ms.length lcap) (.slice sao sl.length scap)) := ⟨⟨_, n3⟩, (unhide HP).row.only o3 (by decide), (unhide HP).side.only o3 (by decide), (unhide HP).few, (unhide HP).wfs, (unhide HP).wfm, Nat.le_succ_of_le (unhide HP).cnt, Nat.le_succ_of_le (unhide HP).md, (unhide HP).low.trans o3.1⟩
          clear n3 o3 HE d0 d1 d2 d3 d4
          obtain ⟨bz, nz⟩ := (unhide PZ).net
          have LST := hide (lost_any _ nz)
          have LEN := hide (len_any _ nz)
          have e6 : ms.length ≤ 200 := by have := (unhide PZ).cnt; omega
          have e7 : lost ≤ 200 := by have := (unhide PZ).cnt; omega
          clear nz
          as_aux_lemma =>
            go_wp2_with fail
            refine (unhide LEN).mono ?_
            rintro e wa ⟨rfl, rfl⟩
            as_aux_lemma =>
              go_wp2_with fail
              refine (unhide LST).mono ?_
              rintro e wb ⟨rfl, rfl⟩
              as_aux_lemma =>
                go_wp2
                go_roundg (100 - (k + 1))
                case measure => have := unhide HG; omega
                case rel => exact ⟨k + 1, made, lost, ms, false, sl, by omega, by omega, by go_num, by first | go_num | rfl, by first | rfl | (simp; omega) | go_num, rfl, unhide PZ⟩
    · have HLW := hide hpl.low
      have hcase : ¬ (k : Int) < (nc : Int) ∨ ((k : Int) < (nc : Int) ∧ ¬ (k : Int) < 100) := by omega
      clear hpl hgk P1 hlt
      as_aux_lemma =>
        rcases hcase with hc1 | ⟨hc1, hc2⟩ <;> (
          go_wp2
          go_ret
          exact ⟨rfl, (unhide B0).trans ((unhide HLW).mono s0)⟩)
end Go.Proofs.Ytnplhoekkoomiaa

/- The walk of TapePlays. -/
import Derived.Test.YtnohkbekljfehaaDoorTRd
import Derived.Test.YtnohkbekljfehaaDoorTCalls
import Derived.Deep.RegionHeld
import Derived.Deep.DeepCutAuto
import Derived.Deep.CutBlock
namespace Go.Proofs.YtnohkbekljfehaaDoor
open Go.RowKit

set_option maxRecDepth 20000 in
set_option maxHeartbeats 4000000 in
theorem plays_bad (room : Int) (hr : room < 1 ∨ 1073741824 < room) (ao : Option Addr) (n cap : Nat) (a : Addr) (w : World) (hG : Glob w a) (hz : 1 ≤ w.heap.size) :
    Calls Tryd.prog 3 #[.int .i64 room, .slice ao n cap] w fun e w' => e = .returned (.bool true) ∧ Below w.heap.size w w' := by
  have HG := hide hG
  have HR := hide hr
  clear hG hr
  go_enter Tryd.func3, Tryd.ntmps3
  go_wp2_with fail
  refine (known_any a w (unhide HG) hz).mono ?_
  rintro e w1 ⟨rfl, b1⟩
  have B1 := hide b1
  clear b1
  go_wp2_with fail
  refine (new_bad room w1 (unhide HR)).mono ?_
  rintro e w1' ⟨rfl, rfl⟩
  go_wp2_with fail
  refine (xnew_bad room w1' (unhide HR)).mono ?_
  rintro e w1 ⟨rfl, rfl⟩
  go_wp2_with fail
  refine wp_loop_rounds 1 ?_
  rw [rounds_succ]
  go_wp2
  go_ret
  exact ⟨rfl, unhide B1⟩

set_option maxRecDepth 20000 in
set_option maxHeartbeats 4000000 in
theorem plays_walk (room : Nat) (hr1 : 1 ≤ room) (hr2 : room ≤ 1073741824) (ao : Option Addr) (n cap : Nat) (a : Addr) (w : World) (hc : CallsAt w ao n) (hG : Glob w a) (hz : 1 ≤ w.heap.size) :
    Calls Tryd.prog 3 #[.int .i64 (room : Int), .slice ao n cap] w fun e w' => e = .returned (.bool true) ∧ Below w.heap.size w w' := by
  have HG := hide hG
  have HC := hide hc
  clear hG hc
  go_enter Tryd.func3, Tryd.ntmps3
  go_wp2_with fail
  refine (known_any a w (unhide HG) hz).mono ?_
  rintro e w1 ⟨rfl, b1⟩
  have B1 := hide b1
  have s1 := b1.size
  have z1 : 1 ≤ w1.heap.size := Nat.le_trans hz s1
  clear b1
  go_wp2_with fail
  refine (new_ok room w1 hr1 hr2).mono ?_
  rintro e w2 ⟨rfl, t2, b2⟩
  have T2 := hide t2
  have B2 := hide ((unhide B1).trans (b2.mono s1))
  have s2 := b2.size
  have s2' := t2.lt.2.1
  clear t2 b2
  go_wp2_with fail
  refine (xnew_ok room w2 hr1 hr2).mono ?_
  rintro e w3 ⟨rfl, t3, b3⟩
  have both3 : Both w1.heap.size w3 w1.heap.size none w2.heap.size none ⟨room, [], 0, 0, 0, false⟩ := ⟨(unhide T2).below b3, t3.mono s2, ⟨by omega, by simp, by simp, by simp⟩⟩
  have BO3 := hide both3
  have B3 := hide ((unhide B2).trans (b3.mono (unhide B2).size))
  have s3 := Nat.le_trans s2 b3.size
  clear both3 t3 b3
  obtain ⟨p, ep⟩ : ∃ p, w1.heap.size = p := ⟨_, rfl⟩
  obtain ⟨px, epx⟩ : ∃ px, w2.heap.size = px := ⟨_, rfl⟩
  rw [ep, epx] at BO3
  rw [ep] at s1 s2 s3 z1 s2' ⊢
  rw [epx] at s2 s2' ⊢
  clear ep epx T2 B1 B2
  go_wp2_with fail
  go_loopg [9] 100 (fun g iv wr => ∃ (i : Nat) (q qx : Option Nat) (s : St), i + g = 100 ∧ iv = .int .i64 (i : Int) ∧ s.ops ≤ i ∧ s.left ≤ 9223372036854775807 ∧ Both p wr p q px qx s ∧ Below w.heap.size w wr ∧ p ≤ wr.heap.size)
  case atStart => exact ⟨0, none, none, _, rfl, rfl, Nat.le_refl _, by simp, unhide BO3, unhide B3, s3⟩
  case round =>
    obtain ⟨i, q, qx, s, hig, rfl, hops, hleft, hbo, br, sr⟩ := hrel
    have HIG := hide hig
    have hi100 : i ≤ 100 := by omega
    have HOPS := hide hops
    have HLEFT := hide hleft
    have BO := hide hbo
    have BR := hide br
    clear hig hops hleft hbo br BO3 B3
    by_cases h1 : i < n
    · by_cases h2 : i < 100
      · obtain ⟨ad, kind, num, r, l, cx, b, rfl, hc0, hc1, hc2, hbl, hby, hcx, hnx, hn1, hn2⟩ := unhide HC i h1
        obtain ⟨blk, off, spot⟩ := ad
        have hspot : spot = none := by
          obtain ⟨ad0, _, _, _, _, _, _, e0, hc00, _⟩ := unhide HC 0 (by omega)
          cases e0
          simpa [Addr.add] using World.cell?_spot hc00
        subst hspot
        rw [Addr.add_lit] at hc0 hc1 hc2
        rw [← Nat.add_assoc] at hc1 hc2
        have k0 : wr.cell? ⟨blk, off + i * 3, none⟩ = some (.int .i64 kind) := by rw [(unhide BR).cell (blk_lt hc0)]; exact hc0
        have k1 : wr.cell? ⟨blk, off + i * 3 + 1, none⟩ = some (.int .i64 num) := by rw [(unhide BR).cell (blk_lt hc1)]; exact hc1
        have k2 : wr.cell? ⟨blk, off + i * 3 + 2, none⟩ = some (.slice r l cx) := by rw [(unhide BR).cell (blk_lt hc2)]; exact hc2
        have HBL := hide hbl
        have HBY := hide hby
        have HNX := hide hnx
        clear hc0 hc1 hc2 hbl hby hnx
        go_upto_if 56 with fail
        have ba : Below wr.heap.size wr (wr.alloc (.cells #[.int .i64 kind, .int .i64 num, .slice r l cx] 33)) := (Below.refl _ wr).alloc (Nat.le_refl _) _
        have hnb : (wr.alloc (.cells #[.int .i64 kind, .int .i64 num, .slice r l cx] 33)).heap[wr.heap.size]? = some (.cells #[.int .i64 kind, .int .i64 num, .slice r l cx] 33 (0, 0)) := heap_alloc_new _ _
        generalize ewb : wr.alloc (.cells #[.int .i64 kind, .int .i64 num, .slice r l cx] 33) = wb at *
        clear ewb
        have bob := (unhide BO).below ba
        have BOB := hide bob
        have bb := (unhide BR).trans (ba.mono (unhide BR).size)
        have BB := hide bb
        have sb := Nat.le_trans sr ba.size
        obtain ⟨bx, ebx⟩ : ∃ bx, wr.heap.size = bx := ⟨_, rfl⟩
        rw [ebx] at hnb ⊢
        have hbxp : p ≤ bx := by omega
        have hbx1 : bx ≠ p := by have := (unhide BO).t.lt.2.1; omega
        have hbx2 : bx ≠ px := by have := (unhide BO).x.lt.2.1; omega
        have hbx3 : ∀ k, q = some k → k ≠ bx := fun k hk => by have := ((unhide BO).t.lt.2.2 k hk).2; omega
        have hbx4 : ∀ k, qx = some k → k ≠ bx := fun k hk => by have := ((unhide BO).x.lt.2.2 k hk).2; omega
        have HNB := hide hnb
        have HX3 := hide hbx3
        have HX4 := hide hbx4
        have Yb := hide ((unhide HBY).below bb)
        clear bob bb hnb hbx3 hbx4 k0 k1 k2 ba ebx
        have cb0 : wb.cell? ⟨bx, 0, none⟩ = some (.int .i64 kind) := (cell_of_block (unhide HNB)).trans rfl
        have cb1 : wb.cell? ⟨bx, 1, none⟩ = some (.int .i64 num) := (cell_of_block (unhide HNB)).trans rfl
        have cb2 : wb.cell? ⟨bx, 2, none⟩ = some (.slice r l cx) := (cell_of_block (unhide HNB)).trans rfl
        by_cases h3 : 1000 < l
        · go_wp2
          go_roundg (100 - (i + 1))
          case measure => have := unhide HIG; omega
          case rel => exact ⟨i + 1, q, qx, s, by omega, by go_num, by have := unhide HOPS; omega, unhide HLEFT, unhide BOB, unhide BB, sb⟩
        · have bE : Below wb.heap.size wb (wb.alloc (.cells #[] 5)) := (Below.refl _ wb).alloc (Nat.le_refl _) _
          have OE := hide (own_empty p wb sb)
          have YE := hide ((unhide Yb).below bE)
          have boE := (unhide BOB).below bE
          have bbE := (unhide BB).trans (bE.mono (unhide BB).size)
          have hbxl : bx < wb.heap.size := blk_lt' (unhide HNB)
          have hnE : (wb.alloc (.cells #[] 5)).heap[bx]? = some (.cells #[.int .i64 kind, .int .i64 num, .slice r l cx] 33 (0, 0)) := by rw [bE.block bx hbxl]; exact unhide HNB
          have BOE := hide boE
          have BBE := hide bbE
          have HNE := hide hnE
          have sE := Nat.le_trans sb bE.size
          have ltq : ∀ k, q = some k → k < wb.heap.size := fun k hk => ((unhide BOB).t.lt.2.2 k hk).2
          have ltx : ∀ k, qx = some k → k < wb.heap.size := fun k hk => ((unhide BOB).x.lt.2.2 k hk).2
          have ltp : p < wb.heap.size := (unhide BOB).t.lt.2.1
          have ltpx : px < wb.heap.size := (unhide BOB).x.lt.2.1
          have LTQ := hide ltq
          have LTX := hide ltx
          clear bE boE bbE hnE ltq ltx
          go_wp2_with (at_builtin; refine wpList_append_bytes rfl (.tmp 57) (.tmp 59) rfl p _ [] 0 rfl rfl (unhide OE) r l cx b rfl (unhide HBL) (unhide YE) (unhide HNX) (by omega) (by simp; omega) ?_)
          intro aom capm w5 o5 k5 hat5
          have hfr : ∀ k, (Value.slice aom l capm).ownBlock = some k → wb.heap.size ≤ k := fun k hk => by
            rcases hat5 with h1 | h1
            · rw [h1] at hk; simp only [Value.ownBlock, Option.some.injEq] at hk; omega
            · rw [h1] at hk; simp at hk; omega
          have bo5 : Both p w5 p q px qx s := (unhide BOE).kept k5 (fun e => by simp only [Value.ownBlock, Option.some.injEq] at e; omega) (fun k hk e => by have := unhide LTQ k hk; simp only [Value.ownBlock, Option.some.injEq] at e; omega)
            (fun e => by simp only [Value.ownBlock, Option.some.injEq] at e; omega) (fun k hk e => by have := unhide LTX k hk; simp only [Value.ownBlock, Option.some.injEq] at e; omega)
          have hn5 : w5.heap[bx]? = some (.cells #[.int .i64 kind, .int .i64 num, .slice r l cx] 33 (0, 0)) := by
            rw [k5.2 bx (by simp; omega) (fun e => by simp only [Value.ownBlock, Option.some.injEq] at e; omega)]; exact unhide HNE
          have ap : Apart (.slice aom l capm) p q := fun k hk => ⟨by have := hfr k hk; omega, fun e => by have := hfr k hk; have := unhide LTQ k e; omega⟩
          have apx : Apart (.slice aom l capm) px qx := fun k hk => ⟨by have := hfr k hk; omega, fun e => by have := hfr k hk; have := unhide LTX k e; omega⟩
          have hmb : ∀ k, (Value.slice aom l capm).ownBlock = some k → k ≠ bx := fun k hk => by have := hfr k hk; omega
          have b5 := (unhide BBE).trans (k5.1.mono s1)
          have s5 := Nat.le_trans sE k5.size
          have c50 : w5.cell? ⟨bx, 0, none⟩ = some (.int .i64 kind) := (cell_of_block hn5).trans rfl
          obtain ⟨kk, ekk⟩ : ∃ kk : Nat, kind % 5 = (kk : Int) := ⟨(kind % 5).toNat, by omega⟩
          have hkk : kk < 5 := by omega
          have EKK := hide ekk
          have BO5 := hide bo5
          have HN5 := hide hn5
          have AP := hide ap
          have APX := hide apx
          have HMB := hide hmb
          have B5 := hide b5
          have O5 := hide o5
          clear k5 hat5 hfr bo5 hn5 ap apx hmb b5 o5 ekk cb0 cb1 cb2
          go_wp2_with fail
          refine (within_nat kind 5 kk (unhide EKK) w5 (by omega) (by omega)).mono ?_
          rintro e w5' ⟨rfl, rfl⟩
          have rd5 : Rd p w w5' p q px qx s s (.slice aom l capm) b bx #[.int .i64 kind, .int .i64 num, .slice r l cx] := ⟨(unhide BO5).t, (unhide BO5).x, (unhide BO5).sep, by simpa using unhide O5, unhide AP, unhide APX, unhide HN5, hbx1, hbx2, unhide HX3, unhide HX4, unhide HMB, unhide B5, s5⟩
          have RD := hide rd5
          have ho4 : s.ops ≤ 4611686018427387904 := by have := unhide HOPS; omega
          have HO4 := hide ho4
          have RD0 := hide (rd5.later (drew_below w5'))
          have S0 : w5'.drew.cell? ⟨bx, 2, none⟩ = some (.slice r l cx) := (cell_of_block (unhide RD0).box).trans rfl
          have S0' : w5'.drew.cell? ⟨bx, 1, none⟩ = some (.int .i64 num) := (cell_of_block (unhide RD0).box).trans rfl
          have c51 : w5'.cell? ⟨bx, 1, none⟩ = some (.int .i64 num) := (cell_of_block rd5.box).trans rfl
          have c52 : w5'.cell? ⟨bx, 2, none⟩ = some (.slice r l cx) := (cell_of_block rd5.box).trans rfl
          clear rd5 ho4 BO5 O5 AP APX HN5 HMB B5 HX3 HX4 BOE BBE HNE BOB BB HNB Yb YE OE LTQ LTX
          go_upto_block 2 with fail
          go_cut [] (fun wc => ∃ (q qx : Option Nat) (s' : St), s'.ops ≤ i + 1 ∧ s'.left ≤ 9223372036854775807 ∧ Rd p w wc p q px qx s' s' (.slice aom l capm) b bx #[.int .i64 kind, .int .i64 num, .slice r l cx])
          case first =>
            have hk5 : kk = 0 ∨ kk = 1 ∨ kk = 2 ∨ kk = 3 ∨ kk = 4 := by omega
            clear hkk EKK
            rcases hk5 with rfl | rfl | rfl | rfl | rfl
            · go_wp2
              go_region_held (fun w' => w'.cell? ⟨bx, 2, none⟩ = some (.slice r l cx)) (first | exact S0 | exact S6 | exact S7)
                (first
                | (go_at_call 13; refine (append_any p p q s a aom l capm b (unhide HBL) _ (unhide RD0).t ((unhide HG).kept (unhide RD0).below hz) z1 (unhide RD0).size (unhide HO4) (unhide HLEFT) (fun w' kk => (own_bytes ((unhide RD0).own.kept kk (fun k hk e => ((unhide RD0).ap k hk).1 e))).1) (own_bytes (unhide RD0).own).2 (by omega)).mono ?_; rintro e w6 ⟨q6, rfl, t6, k6, f6⟩; have RD6 := hide ((unhide RD0).turnT s1 t6 k6 f6); have S6 : w6.cell? ⟨bx, 2, none⟩ = some (.slice r l cx) := (cell_of_block (unhide RD6).box).trans rfl; clear t6 k6 f6)
                | (go_at_call 14; refine (xappend_any p px qx s r l cx b (unhide HBL) _ (unhide RD6).x (unhide RD6).size (unhide HO4) (unhide HLEFT) (fun w' kk => (unhide HBY).below ((unhide RD6).below.trans (kk.1.mono s1))) (unhide HNX) (by omega)).mono ?_; rintro e w7 ⟨q7, rfl, x7, k7, f7⟩; have RD7 := hide ((unhide RD6).turnX s1 x7 k7 f7); have S7 : w7.cell? ⟨bx, 2, none⟩ = some (.slice r l cx) := (cell_of_block (unhide RD7).box).trans rfl; clear x7 k7 f7))
              all_goals go_wp2
              all_goals go_meet
              all_goals exact ⟨q6, q7, _, by have := (append_ops s b).1; have := unhide HOPS; omega, by have := (append_ops s b).2; have := unhide HLEFT; omega, unhide RD7⟩
            · go_wp2_with fail
              refine (sync_any p p q s a _ (unhide RD).t ((unhide HG).kept (unhide RD).below hz) (unhide RD).size (unhide HO4) (unhide HLEFT)).mono ?_
              rintro e w6 ⟨rfl, t6, k6⟩
              have RD6 := hide ((unhide RD).turnT s1 t6 (k6.mono (Nat.le_refl _) (fun _ _ x => Or.inl x)) (Fresh.refl _ _))
              clear t6 k6
              go_wp2_with fail
              refine (xsync_any p px qx s _ (unhide RD6).x (unhide HO4) (unhide HLEFT)).mono ?_
              rintro e w7 ⟨rfl, x7, k7⟩
              have RD7 := hide ((unhide RD6).turnX s1 x7 k7 (Fresh.refl _ _))
              clear x7 k7
              go_wp2
              go_meet
              exact ⟨q, qx, _, by have := (sync_ops s).1; have := unhide HOPS; omega, by have := (sync_ops s).2; have := unhide HLEFT; omega, unhide RD7⟩
            · go_wp2
              go_region_held (fun w' => w'.cell? ⟨bx, 2, none⟩ = some (.slice r l cx)) (first | exact S0 | exact S6 | exact S7)
                (first
                | (go_at_call 17; refine (replace_any p p q s a aom l capm b (unhide HBL) _ (unhide RD0).t ((unhide HG).kept (unhide RD0).below hz) (unhide RD0).size (unhide HO4) (unhide HLEFT) (fun w' kk => (own_bytes ((unhide RD0).own.kept kk (fun k hk e => ((unhide RD0).ap k hk).1 e))).1) (by omega)).mono ?_; rintro e w6 ⟨q6, rfl, t6, k6, f6⟩; have RD6 := hide ((unhide RD0).turnT s1 t6 (k6.mono (Nat.le_refl _) (fun _ _ x => Or.inl x)) f6); have S6 : w6.cell? ⟨bx, 2, none⟩ = some (.slice r l cx) := (cell_of_block (unhide RD6).box).trans rfl; clear t6 k6 f6)
                | (go_at_call 18; refine (xreplace_any p px qx s r l cx b (unhide HBL) _ (unhide RD6).x (unhide RD6).size (unhide HO4) (unhide HLEFT) (fun w' kk => (unhide HBY).below ((unhide RD6).below.trans (kk.1.mono s1))) (unhide HNX) (by omega)).mono ?_; rintro e w7 ⟨q7, rfl, x7, k7, f7⟩; have RD7 := hide ((unhide RD6).turnX s1 x7 k7 f7); have S7 : w7.cell? ⟨bx, 2, none⟩ = some (.slice r l cx) := (cell_of_block (unhide RD7).box).trans rfl; clear x7 k7 f7))
              all_goals go_wp2
              all_goals go_meet
              all_goals exact ⟨q6, q7, _, by have := (replace_ops s b).1; have := unhide HOPS; omega, by have := (replace_ops s b).2; have := unhide HLEFT; omega, unhide RD7⟩
            · go_wp2_with fail
              refine (stop_any p p q s num _ (unhide RD).t).mono ?_
              rintro e w6 ⟨rfl, t6, k6⟩
              have RD6 := hide ((unhide RD).turnT s1 t6 (k6.mono (Nat.le_refl _) (fun _ _ x => Or.inl x)) (Fresh.refl _ _))
              have c61 : w6.cell? ⟨bx, 1, none⟩ = some (.int .i64 num) := (cell_of_block (unhide RD6).box).trans rfl
              clear t6 k6
              go_wp2_with fail
              refine (xstop_any p px qx s num _ (unhide RD6).x).mono ?_
              rintro e w7 ⟨rfl, x7, k7⟩
              have RD7 := hide ((unhide RD6).turnX s1 x7 k7 (Fresh.refl _ _))
              clear x7 k7
              go_wp2
              go_meet
              exact ⟨q, qx, { s with left := num }, by have := unhide HOPS; simp only; omega, hn2, unhide RD7⟩
            · go_wp2
              go_region_held (fun w' => w'.cell? ⟨bx, 1, none⟩ = some (.int .i64 num)) (first | exact S0' | exact S6 | exact S7)
                (first
                | (go_at_call 21; refine (crash_any p p q s num _ (unhide RD0).t).mono ?_; rintro e w6 ⟨rfl, t6, k6⟩; have RD6 := hide ((unhide RD0).turnT s1 t6 (k6.mono (Nat.le_refl _) (fun _ _ x => Or.inl x)) (Fresh.refl _ _)); have S6 : w6.cell? ⟨bx, 1, none⟩ = some (.int .i64 num) := (cell_of_block (unhide RD6).box).trans rfl; clear t6 k6)
                | (go_at_call 22; refine (xcrash_any p px qx s num _ (unhide RD6).x).mono ?_; rintro e w7 ⟨rfl, x7, k7⟩; have RD7 := hide ((unhide RD6).turnX s1 x7 k7 (Fresh.refl _ _)); have S7 : w7.cell? ⟨bx, 1, none⟩ = some (.int .i64 num) := (cell_of_block (unhide RD7).box).trans rfl; clear x7 k7))
              all_goals go_wp2
              all_goals go_meet
              all_goals exact ⟨q, qx, s.crash num, by have := unhide HOPS; simp only [St.crash]; omega, by simp [St.crash], unhide RD7⟩
          case rest =>
            obtain ⟨q, qx, s', hops, hleft, rd⟩ := hcut
            have HOP2 := hide hops
            have HLE2 := hide hleft
            have RD2 := hide rd
            clear hops hleft rd RD RD0 S0 S0' c51 c52 HOPS HLEFT HO4 BO
            go_wp2_with fail
            go_loopg [12] l (fun g jv wr2 => ∃ (j : Nat) (b' : List Nat), j + g = l ∧ jv = .int .i64 (j : Int) ∧ b'.length = l ∧ Rd p w wr2 p q px qx s' s' (.slice aom l capm) b' bx #[.int .i64 kind, .int .i64 num, .slice r l cx])
            case atStart => exact ⟨0, b, by omega, rfl, unhide HBL, unhide RD2⟩
            case round =>
              clear RD2
              obtain ⟨j, b', hjg, rfl, hbl', rd2⟩ := hrel
              have HJG := hide hjg
              have HBL2 := hide hbl'
              have RD3 := hide rd2
              have hjl : j ≤ l := by omega
              clear hjg hbl' rd2
              by_cases hj : j < l
              · obtain ⟨g, rfl⟩ : ∃ g, aom = some ⟨g, 0, none⟩ := by
                  rcases (unhide RD3).own.1.2 with ⟨e, _⟩ | ⟨g, cap', cur, e, _⟩
                  · simp only [Value.slice.injEq] at e; omega
                  · simp only [Value.slice.injEq] at e; exact ⟨g, e.1⟩
                have how : wr.ownsRow p 5 1 (.slice (some ⟨g, 0, none⟩) l capm) l (u8s b') := by have h1 := (unhide RD3).own.1; rw [unhide HBL2] at h1; exact h1
                have hcj : wr.cell? ⟨g, j, none⟩ = some (.int .u8 ((b'.getD j 0 : Nat) : Int)) := by
                  rw [how.cellAt j (by omega), u8s, List.getElem?_map, List.getD_eq_getElem?_getD, List.getElem?_eq_getElem (by rw [unhide HBL2]; exact hj)]; rfl
                have hfz := how.frozenAt j
                have j1 : (j : Int) < (l : Int) := by omega
                have RD4 := hide ((unhide RD3).store s1 (unhide HBL2) j 238 (by decide))
                clear how
                go_wp2
                go_roundg (l - (j + 1))
                case measure => have := unhide HJG; omega
                case rel => exact ⟨j + 1, b'.set j 238, by omega, by go_num, by rw [List.length_set]; exact unhide HBL2, unhide RD4⟩
              · obtain ⟨m, em⟩ : ∃ m, s'.bs.length = m := ⟨_, rfl⟩
                have RD4 := hide ((unhide RD3).later (drew_below wr))
                have CX : ∀ w', Below wr.heap.size wr w' → ∃ aox capx, w'.cell? ⟨px, 2, none⟩ = some (.slice aox m capx) ∧ w'.cell? ⟨px, 4, none⟩ = some (.int .i64 (s'.ops : Int)) ∧ w'.cell? ⟨px, 5, none⟩ = some (.bool s'.dead) ∧ (convert 31 9 (.slice aox m capx)).run Tryd.prog w' = .ok (.string (str s'.bs)) w' := fun w' hb => by
                  obtain ⟨v, L, _, _, _, hp, ho, _⟩ := (unhide RD3).x.below hb
                  obtain ⟨aox, capx, rfl, _, _, hy, _⟩ := ho.slice
                  refine ⟨aox, capx, ?_, (cell_of_block hp).trans rfl, (cell_of_block hp).trans rfl, conv_str hy em⟩
                  rw [← em]; exact (cell_of_block hp).trans rfl
                obtain ⟨aox, capx, x2, x4, x5, xc⟩ := CX _ (drew_below wr)
                have CX2 : ∀ w', Below wr.heap.size wr w' → w'.cell? ⟨px, 2, none⟩ = some (.slice aox m capx) ∧ w'.cell? ⟨px, 4, none⟩ = some (.int .i64 (s'.ops : Int)) ∧ w'.cell? ⟨px, 5, none⟩ = some (.bool s'.dead) ∧ (convert 31 9 (.slice aox m capx)).run Tryd.prog w' = .ok (.string (str s'.bs)) w' := fun w' hb => by
                  obtain ⟨ao2, cap2, y2, y4, y5, yc⟩ := CX w' hb
                  have e2 : w'.cell? ⟨px, 2, none⟩ = some (.slice aox m capx) := by
                    rw [hb.cell (by have := blk_lt x2; simpa using this)]; exact x2
                  rw [e2] at y2
                  simp only [Option.some.injEq, Value.slice.injEq, true_and] at y2
                  obtain ⟨rfl, rfl⟩ := y2
                  exact ⟨e2, y4, y5, yc⟩
                have SX := CX2 _ (drew_below wr)
                have HCX := hide CX2
                have EM := hide em
                have hops2 : (s'.ops : Int) ≤ 101 := by have := unhide HOP2; omega
                generalize hsd : s'.dead = sd at *
                generalize hso : s'.ops = so at *
                generalize hss : str s'.bs = ss at *
                have HSD := hide hsd
                have HSO := hide hso
                have HSS := hide hss
                clear CX CX2 em x2 x4 x5 xc hsd hso hss
                go_wp2
                go_region_held (fun w' => w'.cell? ⟨px, 2, none⟩ = some (.slice aox m capx) ∧ w'.cell? ⟨px, 4, none⟩ = some (.int .i64 (so : Int)) ∧ w'.cell? ⟨px, 5, none⟩ = some (.bool sd) ∧ (convert 31 9 (.slice aox m capx)).run Tryd.prog w' = .ok (.string ss) w') (first | exact SX | exact S8)
                  (first
                  | (go_at_call 23; refine (bytes_str p p q s' s'.bs m rfl (unhide EM) wr _ (unhide RD4).t (drew_below wr)).mono ?_; rintro e w8 ⟨ao8, cap8, rfl, _, _, _, _, b8', b8, cv8⟩; have S8 := unhide HCX _ b8; rw [unhide HSS] at cv8; have RD8 := hide ((unhide RD4).later b8'); clear b8 b8')
                  | (go_at_call 24; refine (dead_any p p q s' _ (unhide RD8).t).mono ?_; rw [unhide HSD]; rintro e w9 ⟨rfl, rfl⟩)
                  | (go_at_call 25; refine (ops_any p p q s' _ (unhide RD8).t).mono ?_; rw [unhide HSO]; rintro e w9 ⟨rfl, rfl⟩))
                all_goals go_wp2
                go_roundg (100 - (i + 1))
                case measure => have := unhide HIG; omega
                case rel => exact ⟨i + 1, q, qx, s', by omega, by go_num, by have h1 := unhide HOP2; have h2 := unhide HSO; omega, unhide HLE2, ⟨(unhide RD8).t, (unhide RD8).x, (unhide RD8).sep⟩, (unhide RD8).below, (unhide RD8).size⟩
      · go_wp2
        go_ret
        exact ⟨rfl, unhide BR⟩
    · go_wp2
      go_ret
      exact ⟨rfl, unhide BR⟩
end Go.Proofs.YtnohkbekljfehaaDoor

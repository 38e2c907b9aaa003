/- The walk of WireMsgs. -/
import Derived.Test.YthjpdglbliigcaaDoorMsgC
namespace Go.Proofs.YthjpdglbliigcaaDoor
open Go.RowKit
attribute [local go_sem ↓] Go.wp_at_zero Go.wp_at_succ

theorem firstOf_zero : ∀ (l : List Nat), firstOf l = 0 → ∀ x ∈ l, x = 0
  | [], _, x, hx => by simp at hx
  | y :: l, h, x, hx => by
    unfold firstOf at h
    split at h
    · next hy => exact absurd h hy
    · next hy =>
      rcases List.mem_cons.1 hx with rfl | hx
      · simpa using hy
      · exact firstOf_zero l h x hx
theorem esErr_all : ∀ (es : List En), esErr es = 0 → ∀ e ∈ es, wrongE e.kind e.text.size e.ms.length e.to = 0
  | [], _, x, hx => by simp at hx
  | y :: l, h, x, hx => by
    unfold esErr at h
    split at h
    · next hy => exact absurd h hy
    · next hy =>
      rcases List.mem_cons.1 hx with rfl | hx
      · simpa using hy
      · exact esErr_all l h x hx
theorem putM_zero {x : Mg} (h : (x.put ([], 0)).2 = 0) : x.ok := by
  rw [put_err] at h
  have hz := firstOf_zero _ h
  exact ⟨hz _ (by simp), hz _ (by simp), hz _ (by simp), hz _ (by simp), hz _ (by simp), fun e he => wrongE_ok (esErr_all x.es (hz _ (by simp)) e he)⟩

set_option maxRecDepth 100000 in
set_option maxHeartbeats 16000000 in
theorem msgs_walk (m0 o : Mg) (at0 ae0 ao0 an0 dt de d_o dn : Option Addr) (act0 ace0 aco0 acn0 dct dce dco dcn : Nat) (w : World) (i1 : IntsAt w at0 m0.terms.length act0 m0.terms) (i2 : m0.es.length ≤ ace0 ∧ ace0 ≤ maxLen ∧ (ae0 = none → ace0 = 0) ∧ EntsAt w ae0 m0.es) (i3 : IntsAt w ao0 m0.old.length aco0 m0.old) (i4 : IntsAt w an0 m0.new.length acn0 m0.new) (n1 : m0.in64)
    (j1 : IntsAt w dt o.terms.length dct o.terms) (j2 : o.es.length ≤ dce ∧ dce ≤ maxLen ∧ (de = none → dce = 0) ∧ EntsAt w de o.es) (j3 : IntsAt w d_o o.old.length dco o.old) (j4 : IntsAt w dn o.new.length dcn o.new) (n2 : o.in64) (hS : Start w) :
    Calls Tryd.prog 4 #[.agg #[.int .i64 m0.src, .int .i64 m0.to, .int .i64 m0.gen, .int .i64 m0.kind, .int .i64 m0.term, .int .i64 m0.index, .int .i64 m0.last, .int .i64 m0.commit, .bool m0.yes, .slice at0 m0.terms.length act0, .slice ae0 m0.es.length ace0, .slice ao0 m0.old.length aco0, .slice an0 m0.new.length acn0], .agg #[.int .i64 o.src, .int .i64 o.to, .int .i64 o.gen, .int .i64 o.kind, .int .i64 o.term, .int .i64 o.index, .int .i64 o.last, .int .i64 o.commit, .bool o.yes, .slice dt o.terms.length dct, .slice de o.es.length dce, .slice d_o o.old.length dco, .slice dn o.new.length dcn]] w fun e w' => e = .returned (.bool true) ∧ Below w.heap.size w w' := by
  obtain ⟨W, hW⟩ : ∃ W, (w.alloc (.cells #[.int .i64 m0.src, .int .i64 m0.to, .int .i64 m0.gen, .int .i64 m0.kind, .int .i64 m0.term, .int .i64 m0.index, .int .i64 m0.last, .int .i64 m0.commit, .bool m0.yes, .slice at0 m0.terms.length act0, .slice ae0 m0.es.length ace0, .slice ao0 m0.old.length aco0, .slice an0 m0.new.length acn0] 41)).alloc (.cells #[.int .i64 o.src, .int .i64 o.to, .int .i64 o.gen, .int .i64 o.kind, .int .i64 o.term, .int .i64 o.index, .int .i64 o.last, .int .i64 o.commit, .bool o.yes, .slice dt o.terms.length dct, .slice de o.es.length dce, .slice d_o o.old.length dco, .slice dn o.new.length dcn] 41) = W := ⟨_, rfl⟩
  obtain ⟨x1, x2, bW⟩ := ent_two w (.cells #[.int .i64 m0.src, .int .i64 m0.to, .int .i64 m0.gen, .int .i64 m0.kind, .int .i64 m0.term, .int .i64 m0.index, .int .i64 m0.last, .int .i64 m0.commit, .bool m0.yes, .slice at0 m0.terms.length act0, .slice ae0 m0.es.length ace0, .slice ao0 m0.old.length aco0, .slice an0 m0.new.length acn0] 41) (.cells #[.int .i64 o.src, .int .i64 o.to, .int .i64 o.gen, .int .i64 o.kind, .int .i64 o.term, .int .i64 o.index, .int .i64 o.last, .int .i64 o.commit, .bool o.yes, .slice dt o.terms.length dct, .slice de o.es.length dce, .slice d_o o.old.length dco, .slice dn o.new.length dcn] 41)
  rw [hW] at x1 x2 bW
  have FE := hide (fun w1 (b1 : Below w.heap.size w w1) => fewMsg_is m0.src m0.to m0.gen m0.kind m0.term m0.index m0.last m0.commit m0.yes at0 ae0 ao0 an0 m0.terms.length act0 m0.es.length ace0 m0.old.length aco0 m0.new.length acn0 m0.es rfl (Nat.le_trans i1.room i1.big) (Nat.le_trans i2.1 i2.2.1) (Nat.le_trans i3.room i3.big) (Nat.le_trans i4.room i4.big) w1 (i2.2.2.2.below b1))
  have FO := hide (fun w1 (b1 : Below w.heap.size w w1) => fewMsg_is o.src o.to o.gen o.kind o.term o.index o.last o.commit o.yes dt de d_o dn o.terms.length dct o.es.length dce o.old.length dco o.new.length dcn o.es rfl (Nat.le_trans j1.room j1.big) (Nat.le_trans j2.1 j2.2.1) (Nat.le_trans j3.room j3.big) (Nat.le_trans j4.room j4.big) w1 (j2.2.2.2.below b1))
  obtain ⟨B, hB⟩ : ∃ B, w.heap.size = B := ⟨_, rfl⟩
  have MK := hide (fun (wr : World) (hb : Below w.heap.size w wr) (hx : wr.heap[B]? = some (.cells #[.int .i64 m0.src, .int .i64 m0.to, .int .i64 m0.gen, .int .i64 m0.kind, .int .i64 m0.term, .int .i64 m0.index, .int .i64 m0.last, .int .i64 m0.commit, .bool m0.yes, .slice at0 m0.terms.length act0, .slice ae0 m0.es.length ace0, .slice ao0 m0.old.length aco0, .slice an0 m0.new.length acn0] 41 (0, 0))) (hf : m0.few) => (⟨hx, ⟨i2.1, i2.2.1, i2.2.2.1⟩, fun w' h => i1.same (by omega) hb h, fun w' h => i2.2.2.2.sameE (by omega) hb h, fun w' h => i3.same (by omega) hb h, fun w' h => i4.same (by omega) hb h, n1, hf⟩ : MB wr B B m0 at0 ae0 ao0 an0 act0 ace0 aco0 acn0))
  have MO := hide (fun (wr : World) (hb : Below w.heap.size w wr) (hx : wr.heap[B + 1]? = some (.cells #[.int .i64 o.src, .int .i64 o.to, .int .i64 o.gen, .int .i64 o.kind, .int .i64 o.term, .int .i64 o.index, .int .i64 o.last, .int .i64 o.commit, .bool o.yes, .slice dt o.terms.length dct, .slice de o.es.length dce, .slice d_o o.old.length dco, .slice dn o.new.length dcn] 41 (0, 0))) (hf : o.few) => (⟨hx, ⟨j2.1, j2.2.1, j2.2.2.1⟩, fun w' h => j1.same (by omega) hb h, fun w' h => j2.2.2.2.sameE (by omega) hb h, fun w' h => j3.same (by omega) hb h, fun w' h => j4.same (by omega) hb h, n2, hf⟩ : MB wr B (B + 1) o dt de d_o dn dct dce dco dcn))
  have ORG := hide (And.intro i1 (And.intro i2.2.2.2 (And.intro i3 i4)))
  rw [hB] at x1 x2
  have X1 := hide x1
  have X2 := hide x2
  have HW := hide hW
  have BW := hide bW
  have HB := hide hB
  have HS := hide hS
  clear hW bW x1 x2 hS i1 i2 i3 i4 j1 j2 j3 j4 n1 n2 hB
  go_enter Tryd.func4, Tryd.ntmps4
  go_wp2_with fail
  rw [unhide HW, unhide HB]
  clear HW
  refine (known_any W ((unhide HS).below (unhide BW))).mono ?_
  rintro r w1 ⟨rfl, b1⟩
  have E1 := hide ((b1.block _ (blk_lt' (unhide X1))).trans (unhide X1))
  have O1 := hide ((b1.block _ (blk_lt' (unhide X2))).trans (unhide X2))
  have B1 := hide ((unhide BW).trans (b1.mono (unhide BW).size))
  obtain ⟨a0, a1, a2, a3, a4, a5, a6, a7, a8, a9, a10, a11, a12⟩ := mbox_cells (unhide E1)
  clear b1 BW X1 X2
  go_wp2_with fail
  refine (unhide FE w1 (unhide B1)).mono ?_
  rintro r w2 ⟨rfl, b2⟩
  have E2 := hide ((b2.block _ (blk_lt' (unhide E1))).trans (unhide E1))
  have O2 := hide ((b2.block _ (blk_lt' (unhide O1))).trans (unhide O1))
  have B2 := hide ((unhide B1).trans (b2.mono (unhide B1).size))
  clear b2 E1 O1 B1 FE a0 a1 a2 a3 a4 a5 a6 a7 a8 a9 a10 a11 a12
  by_cases hf : ¬ ((∀ i, i < m0.es.length → (m0.es.getD i default).text.size < 300 ∧ (m0.es.getD i default).ms.length < 100) ∧ m0.es.length < 100 ∧ m0.terms.length < 100 ∧ m0.old.length < 100 ∧ m0.new.length < 100)
  · rw [decide_eq_false hf]
    clear hf
    go_wp2
    go_ret
    exact ⟨rfl, unhide B2⟩
  replace hf := Decidable.not_not.1 hf
  rw [decide_eq_true hf]
  have HF : Hid m0.few := ⟨hf.2.2.1, hf.2.1, hf.2.2.2.1, hf.2.2.2.2, hf.1⟩
  clear hf
  obtain ⟨c0, c1, c2, c3, c4, c5, c6, c7, c8, c9, c10, c11, c12⟩ := mbox_cells (unhide O2)
  go_wp2_with fail
  refine (unhide FO w2 (unhide B2)).mono ?_
  rintro r w3 ⟨rfl, b3⟩
  have E3 := hide ((b3.block _ (blk_lt' (unhide E2))).trans (unhide E2))
  have O3 := hide ((b3.block _ (blk_lt' (unhide O2))).trans (unhide O2))
  have B3 := hide ((unhide B2).trans (b3.mono (unhide B2).size))
  clear b3 E2 O2 B2 FO c0 c1 c2 c3 c4 c5 c6 c7 c8 c9 c10 c11 c12
  by_cases hg : ¬ ((∀ i, i < o.es.length → (o.es.getD i default).text.size < 300 ∧ (o.es.getD i default).ms.length < 100) ∧ o.es.length < 100 ∧ o.terms.length < 100 ∧ o.old.length < 100 ∧ o.new.length < 100)
  · rw [decide_eq_false hg]
    clear hg
    go_wp2
    go_ret
    exact ⟨rfl, unhide B3⟩
  replace hg := Decidable.not_not.1 hg
  rw [decide_eq_true hg]
  have MB0 := hide (unhide MK w3 (unhide B3) (unhide E3) (unhide HF))
  have OB0 := hide (unhide MO w3 (unhide B3) (unhide O3) ⟨hg.2.2.1, hg.2.1, hg.2.2.2.1, hg.2.2.2.2, hg.1⟩)
  clear hg HF E3 O3 MK MO
  go_wp2_with fail
  go_loopg [5] 2 (fun g iv wr => ∃ (j : Nat) (m : Mg) (at' ae ao an : Option Addr) (act ace aco acn : Nat), j + g = 2 ∧ iv = .int .i64 (j : Int) ∧ (j < 2 → MB wr B B m at' ae ao an act ace aco acn ∧ MB wr B (B + 1) o dt de d_o dn dct dce dco dcn) ∧ (j = 0 → IntsAt w at' m.terms.length act m.terms ∧ EntsAt w ae m.es ∧ IntsAt w ao m.old.length aco m.old ∧ IntsAt w an m.new.length acn m.new) ∧ Below w.heap.size w wr)
  case atStart => exact ⟨0, m0, at0, ae0, ao0, an0, act0, ace0, aco0, acn0, rfl, rfl, fun _ => ⟨unhide MB0, unhide OB0⟩, fun _ => unhide ORG, unhide B3⟩
  case round =>
    clear MB0 OB0 B3 ORG
    obtain ⟨j, m, at', ae, ao, an, act, ace, aco, acn, hj, rfl, hmb, horg, br⟩ := hrel
    have HJ := hide hj
    have hj2 : j ≤ 2 := by omega
    have BR := hide br
    have ORG := hide horg
    have HMB := hide hmb
    clear hj br horg hmb
    by_cases hlt : ¬ j < 2
    · go_wp2
      go_ret
      exact ⟨rfl, unhide BR⟩
    replace hlt := Decidable.not_not.1 hlt
    obtain ⟨hm, ho⟩ := unhide HMB hlt
    have MBR := hide hm
    have OBR := hide ho
    clear hm ho HMB
    obtain ⟨a0, a1, a2, a3, a4, a5, a6, a7, a8, a9, a10, a11, a12⟩ := mbox_cells (unhide MBR).box
    have S0 := hide ((unhide HS).below (unhide BR))
    have CA := hide (mb_enc (unhide MBR) (unhide S0))
    obtain ⟨L, hL⟩ : ∃ L, told (m.put ([], 0)) = L := ⟨_, rfl⟩
    obtain ⟨f, hf⟩ : ∃ f, (m.put ([], 0)).2 = f := ⟨_, rfl⟩
    rw [hL, hf] at CA
    have HL := hide hL
    have HF := hide hf
    clear hL hf
    go_wp2_with fail
    refine (unhide CA).mono ?_
    rintro r w4 ⟨vA, rfl, oA, b4⟩
    obtain ⟨aA, cA, rfl, rA, qA, yA, nA, -⟩ := oA.slice
    have B4 := hide ((unhide BR).trans (b4.mono (unhide BR).size))
    have MB4 := hide ((unhide MBR).below b4)
    have OB4 := hide ((unhide OBR).below b4)
    have S4 := hide ((unhide S0).below b4)
    have YA4 := hide yA
    have NA := hide nA
    have RA := hide rA
    clear oA b4 yA nA rA qA CA a0 a1 a2 a3 a4 a5 a6 a7 a8 a9 a10 a11 a12 BR MBR OBR S0
    obtain ⟨a0, a1, a2, a3, a4, a5, a6, a7, a8, a9, a10, a11, a12⟩ := mbox_cells (unhide MB4).box
    have CB := hide (mb_renc (unhide MB4))
    rw [unhide HL, unhide HF] at CB
    go_wp2_with fail
    refine (unhide CB).mono ?_
    rintro r w5 ⟨vB, rfl, oB, b5⟩
    obtain ⟨aB, cB, rfl, -, -, yB, -, -⟩ := oB.slice
    have B5 := hide ((unhide B4).trans (b5.mono (unhide B4).size))
    have MB5 := hide ((unhide MB4).below b5)
    have OB5 := hide ((unhide OB4).below b5)
    have S5 := hide ((unhide S4).below b5)
    have YA5 := hide ((unhide YA4).below b5)
    have YB5 := hide yB
    clear oB b5 yB CB a0 a1 a2 a3 a4 a5 a6 a7 a8 a9 a10 a11 a12 B4 MB4 OB4 S4 YA4
    obtain ⟨a0, a1, a2, a3, a4, a5, a6, a7, a8, a9, a10, a11, a12⟩ := mbox_cells (unhide MB5).box
    have CC := hide (mb_encC (unhide MB5) (unhide S5))
    obtain ⟨Lc, hLc⟩ : ∃ Lc, told (putConfig m.old m.new ([], 0)) = Lc := ⟨_, rfl⟩
    obtain ⟨fc, hfc⟩ : ∃ fc, (putConfig m.old m.new ([], 0)).2 = fc := ⟨_, rfl⟩
    rw [hLc, hfc] at CC
    go_wp2_with fail
    refine (unhide CC).mono ?_
    rintro r w6 ⟨vC, rfl, oC, b6⟩
    obtain ⟨aC, cC, rfl, -, -, yC, -, -⟩ := oC.slice
    have B6 := hide ((unhide B5).trans (b6.mono (unhide B5).size))
    have MB6 := hide ((unhide MB5).below b6)
    have OB6 := hide ((unhide OB5).below b6)
    have S6 := hide ((unhide S5).below b6)
    have YA6 := hide ((unhide YA5).below b6)
    have YB6 := hide ((unhide YB5).below b6)
    have YC6 := hide yC
    clear oC b6 yC CC a0 a1 a2 a3 a4 a5 a6 a7 a8 a9 a10 a11 a12 B5 MB5 OB5 S5 YA5 YB5
    obtain ⟨a0, a1, a2, a3, a4, a5, a6, a7, a8, a9, a10, a11, a12⟩ := mbox_cells (unhide MB6).box
    have CD := hide (mb_rencC (unhide MB6))
    rw [hLc, hfc] at CD
    clear hLc hfc
    go_wp2_with fail
    refine (unhide CD).mono ?_
    rintro r w7 ⟨vD, rfl, oD, b7⟩
    obtain ⟨aD, cD, rfl, -, -, yD, -, -⟩ := oD.slice
    have B7 := hide ((unhide B6).trans (b7.mono (unhide B6).size))
    have MB7 := hide ((unhide MB6).below b7)
    have OB7 := hide ((unhide OB6).below b7)
    have S7 := hide ((unhide S6).below b7)
    have YA7 := hide ((unhide YA6).below b7)
    obtain ⟨nL, hnL⟩ : ∃ n, L.length = n := ⟨_, rfl⟩
    obtain ⟨nc, hnc⟩ : ∃ n, Lc.length = n := ⟨_, rfl⟩
    have CVA := hide (fun (Y : World) (hY : Below w7.heap.size w7 Y) => conv_str (cap := cA) ((unhide YA7).below hY) hnL)
    have CVB := hide (fun (Y : World) (hY : Below w7.heap.size w7 Y) => conv_str (cap := cB) (((unhide YB6).below b7).below hY) hnL)
    have CVC := hide (fun (Y : World) (hY : Below w7.heap.size w7 Y) => conv_str (cap := cC) (((unhide YC6).below b7).below hY) hnc)
    have CVD := hide (fun (Y : World) (hY : Below w7.heap.size w7 Y) => conv_str (cap := cD) (yD.below hY) hnc)
    obtain ⟨z, hz⟩ : ∃ z, str L = z := ⟨_, rfl⟩
    obtain ⟨zc, hzc⟩ : ∃ z, str Lc = z := ⟨_, rfl⟩
    rw [hz] at CVA CVB
    rw [hzc] at CVC CVD
    rw [hnL, hnc]
    have HNL := hide hnL
    clear oD b7 yD CD a0 a1 a2 a3 a4 a5 a6 a7 a8 a9 a10 a11 a12 B6 MB6 OB6 S6 YA6 YB6 YC6 hnL hnc hz hzc
    obtain ⟨d, hd⟩ : ∃ d, sameM m o = d := ⟨_, rfl⟩
    have SE := hide (fun (Y : World) (hY : Below w7.heap.size w7 Y) => sm_any (act := act) (ace := ace) (aco := aco) (acn := acn) (dct := dct) (dce := dce) (dco := dco) (dcn := dcn) (unhide MB7).few ((unhide MB7).t Y (Same.below hY)).are ((unhide OB7).t Y (Same.below hY)).are ((unhide MB7).e Y (Same.below hY)) ((unhide OB7).e Y (Same.below hY)) ((unhide MB7).o Y (Same.below hY)).are ((unhide OB7).o Y (Same.below hY)).are ((unhide MB7).n Y (Same.below hY)).are ((unhide OB7).n Y (Same.below hY)).are)
    have SR := hide (fun (Y : World) (hY : Below w7.heap.size w7 Y) => rsm_any (act := act) (ace := ace) (aco := aco) (acn := acn) (dct := dct) (dce := dce) (dco := dco) (dcn := dcn) (unhide MB7).few ((unhide MB7).t Y (Same.below hY)).are ((unhide OB7).t Y (Same.below hY)).are ((unhide MB7).e Y (Same.below hY)) ((unhide OB7).e Y (Same.below hY)) ((unhide MB7).o Y (Same.below hY)).are ((unhide OB7).o Y (Same.below hY)).are ((unhide MB7).n Y (Same.below hY)).are ((unhide OB7).n Y (Same.below hY)).are)
    have SS := hide (fun (Y : World) (hY : Below w7.heap.size w7 Y) => sm_any (act := act) (ace := ace) (aco := aco) (acn := acn) (dct := act) (dce := ace) (dco := aco) (dcn := acn) (unhide MB7).few ((unhide MB7).t Y (Same.below hY)).are ((unhide MB7).t Y (Same.below hY)).are ((unhide MB7).e Y (Same.below hY)) ((unhide MB7).e Y (Same.below hY)) ((unhide MB7).o Y (Same.below hY)).are ((unhide MB7).o Y (Same.below hY)).are ((unhide MB7).n Y (Same.below hY)).are ((unhide MB7).n Y (Same.below hY)).are)
    rw [hd] at SE SR
    rw [sameM_self] at SS
    have SX := hide (fun (Y : World) (hY : Below w7.heap.size w7 Y) => And.intro (mbox_cells ((hY.block _ (blk_lt' (unhide MB7).box)).trans (unhide MB7).box)) (And.intro (mbox_cells ((hY.block _ (blk_lt' (unhide OB7).box)).trans (unhide OB7).box)) (And.intro (unhide CVA Y hY) (And.intro (unhide CVB Y hY) (And.intro (unhide CVC Y hY) (unhide CVD Y hY))))))
    clear hd
    go_upto_region 12 with fail
    go_cut [88] (fun bv wc => bv = .bool false ∧ Below w7.heap.size w7 wc)
    case first =>
      as_aux_lemma =>
        have S0 := unhide SX w7.drew (drew_below w7)
        have EZ := hide (drew_below w7)
        go_region_held3 (fun Y => (Y.cell? ⟨B, 0, none⟩ = some (.int .i64 m.src) ∧ Y.cell? ⟨B, 1, none⟩ = some (.int .i64 m.to) ∧ Y.cell? ⟨B, 2, none⟩ = some (.int .i64 m.gen) ∧ Y.cell? ⟨B, 3, none⟩ = some (.int .i64 m.kind) ∧ Y.cell? ⟨B, 4, none⟩ = some (.int .i64 m.term) ∧ Y.cell? ⟨B, 5, none⟩ = some (.int .i64 m.index) ∧ Y.cell? ⟨B, 6, none⟩ = some (.int .i64 m.last) ∧ Y.cell? ⟨B, 7, none⟩ = some (.int .i64 m.commit) ∧ Y.cell? ⟨B, 8, none⟩ = some (.bool m.yes) ∧ Y.cell? ⟨B, 9, none⟩ = some (.slice at' m.terms.length act) ∧ Y.cell? ⟨B, 10, none⟩ = some (.slice ae m.es.length ace) ∧ Y.cell? ⟨B, 11, none⟩ = some (.slice ao m.old.length aco) ∧ Y.cell? ⟨B, 12, none⟩ = some (.slice an m.new.length acn)) ∧ (Y.cell? ⟨B + 1, 0, none⟩ = some (.int .i64 o.src) ∧ Y.cell? ⟨B + 1, 1, none⟩ = some (.int .i64 o.to) ∧ Y.cell? ⟨B + 1, 2, none⟩ = some (.int .i64 o.gen) ∧ Y.cell? ⟨B + 1, 3, none⟩ = some (.int .i64 o.kind) ∧ Y.cell? ⟨B + 1, 4, none⟩ = some (.int .i64 o.term) ∧ Y.cell? ⟨B + 1, 5, none⟩ = some (.int .i64 o.index) ∧ Y.cell? ⟨B + 1, 6, none⟩ = some (.int .i64 o.last) ∧ Y.cell? ⟨B + 1, 7, none⟩ = some (.int .i64 o.commit) ∧ Y.cell? ⟨B + 1, 8, none⟩ = some (.bool o.yes) ∧ Y.cell? ⟨B + 1, 9, none⟩ = some (.slice dt o.terms.length dct) ∧ Y.cell? ⟨B + 1, 10, none⟩ = some (.slice de o.es.length dce) ∧ Y.cell? ⟨B + 1, 11, none⟩ = some (.slice d_o o.old.length dco) ∧ Y.cell? ⟨B + 1, 12, none⟩ = some (.slice dn o.new.length dcn)) ∧ (convert 27 9 (.slice aA nL cA)).run Tryd.prog Y = .ok (.string z) Y ∧ (convert 27 9 (.slice aB nL cB)).run Tryd.prog Y = .ok (.string z) Y ∧ (convert 27 9 (.slice aC nc cC)).run Tryd.prog Y = .ok (.string zc) Y ∧ (convert 27 9 (.slice aD nc cD)).run Tryd.prog Y = .ok (.string zc) Y) (first | with_reducible exact S0 | with_reducible exact unhide SX _ (unhide EZ) | fail)
          (first
            | (go_at_call 21
               refine (unhide SR _ (unhide EZ)).mono ?_
               rintro r z7 ⟨rfl, bz⟩
               have EN := hide ((unhide EZ).trans (bz.mono (unhide EZ).size))
               clear EZ bz
               have EZ := EN
               clear EN)
            | (go_at_call_of 20 (Value.agg #[.int .i64 o.src, .int .i64 o.to, .int .i64 o.gen, .int .i64 o.kind, .int .i64 o.term, .int .i64 o.index, .int .i64 o.last, .int .i64 o.commit, .bool o.yes, .slice dt o.terms.length dct, .slice de o.es.length dce, .slice d_o o.old.length dco, .slice dn o.new.length dcn])
               refine (unhide SE _ (unhide EZ)).mono ?_
               rintro r z7 ⟨rfl, bz⟩
               have EN := hide ((unhide EZ).trans (bz.mono (unhide EZ).size))
               clear EZ bz
               have EZ := EN
               clear EN)
            | (go_at_call 20
               refine (unhide SS _ (unhide EZ)).mono ?_
               rintro r z7 ⟨rfl, bz⟩
               have EN := hide ((unhide EZ).trans (bz.mono (unhide EZ).size))
               clear EZ bz
               have EZ := EN
               clear EN)
            | fail)
        all_goals go_wp2_with fail
        all_goals go_meet
        all_goals exact ⟨rfl, unhide EZ⟩
    case rest =>
    obtain ⟨rfl, bc⟩ := hcut
    obtain ⟨y9, hy9⟩ : ∃ y9, y9 = wc := ⟨_, rfl⟩
    subst hy9
    clear CVA CVB CVC CVD SE SR SS SX
    have B9 := hide ((unhide B7).trans (bc.mono (unhide B7).size))
    have MB9 := hide ((unhide MB7).below bc)
    have OB9 := hide ((unhide OB7).below bc)
    have S9 := hide ((unhide S7).below bc)
    have YA9 := hide ((unhide YA7).below bc)
    clear bc B7 MB7 OB7 S7 YA7
    go_upto_if 90 with fail
    go_cut [] (fun wc => Below y9.heap.size y9 wc)
    case first =>
      by_cases hz : f = 0
      · have hok : m.ok := putM_zero (by rw [unhide HF]; exact hz)
        have hLb : L = m.bytes := by
          rw [← unhide HL, put_ok hok []]; rfl
        have hlen := (MsgBytes.len ⟨m, hok, rfl⟩).2
        have hG : Given y9 aA nL cA m.bytes := ⟨by rw [← hLb]; exact unhide HNL, by rw [← unhide HNL]; exact unhide RA, unhide NA, by rw [← unhide HNL, hLb]; omega, by rw [← hLb]; exact unhide YA9⟩
        have PP := hide (parseM_self hok (unhide MB9).in64 hG (unhide S9))
        subst hz
        clear hok hLb hlen hG
        go_wp2_with fail
        refine (unhide PP).mono ?_
        rintro r w8 ⟨xt, xe, xo, xn, xct, xce, xco, xcn, rfl, h1, h2, h3, h4, b8⟩
        obtain ⟨N, hN⟩ : ∃ N, w8.alloc (.cells #[.int .i64 m.src, .int .i64 m.to, .int .i64 m.gen, .int .i64 m.kind, .int .i64 m.term, .int .i64 m.index, .int .i64 m.last, .int .i64 m.commit, .bool m.yes, .slice xt m.terms.length xct, .slice xe m.es.length xce, .slice xo m.old.length xco, .slice xn m.new.length xcn] 41) = N := ⟨_, rfl⟩
        have bN : Below w8.heap.size w8 N := by rw [← hN]; exact (Below.refl _ w8).alloc (Nat.le_refl _) _
        have xN : N.heap[w8.heap.size]? = some (.cells #[.int .i64 m.src, .int .i64 m.to, .int .i64 m.gen, .int .i64 m.kind, .int .i64 m.term, .int .i64 m.index, .int .i64 m.last, .int .i64 m.commit, .bool m.yes, .slice xt m.terms.length xct, .slice xe m.es.length xce, .slice xo m.old.length xco, .slice xn m.new.length xcn] 41 (0, 0)) := by rw [← hN]; exact heap_alloc_new _ _
        have b9N := b8.trans (bN.mono b8.size)
        have mN := (unhide MB9).below b9N
        have RS := hide (rsm_any (act := xct) (ace := xce) (aco := xco) (acn := xcn) (dct := act) (dce := ace) (dco := aco) (dcn := acn) mN.few (h1.below bN) (mN.t N (Same.refl _ _)).are (h2.below bN) (mN.e N (Same.refl _ _)) (h3.below bN) (mN.o N (Same.refl _ _)).are (h4.below bN) (mN.n N (Same.refl _ _)).are)
        rw [sameM_self] at RS
        obtain ⟨a0, a1, a2, a3, a4, a5, a6, a7, a8, a9, a10, a11, a12⟩ := mbox_cells mN.box
        obtain ⟨c0, c1, c2, c3, c4, c5, c6, c7, c8, c9, c10, c11, c12⟩ := mbox_cells xN
        have BN := hide b9N
        have HN := hide hN
        clear h1 h2 h3 h4 b8 bN b9N mN xN PP hN
        go_upto_region 16 with fail
        rw [unhide HN]
        go_wp2_with fail
        refine (unhide RS).mono ?_
        rintro r w10 ⟨rfl, b10⟩
        have P8 := hide ((unhide BN).trans (b10.mono (unhide BN).size))
        clear b10 RS a0 a1 a2 a3 a4 a5 a6 a7 a8 a9 a10 a11 a12 c0 c1 c2 c3 c4 c5 c6 c7 c8 c9 c10 c11 c12
        go_wp2
        go_meet
        exact unhide P8
      · have hzi : ¬ ((f : Int) = 0) := by omega
        have hzb : ((f : Int) == 0) = false := by rw [beq_eq_false_iff_ne]; exact hzi
        go_wp2
        go_meet
        exact Below.refl _ _
    case rest =>
    obtain ⟨y, hy⟩ : ∃ y, y = wc := ⟨_, rfl⟩
    subst hy
    have MBd := (unhide MB9).below hcut
    have OBd := (unhide OB9).below hcut
    have Bd := (unhide B9).trans (hcut.mono (unhide B9).size)
    clear hcut MB9 OB9 B9 S9 YA9
    have hB2 : B + 2 ≤ y.heap.size := by have := blk_lt' OBd.box; omega
    have GG : Hid (Calls Tryd.prog 23 #[.agg #[.int .i64 m.src, .int .i64 m.to, .int .i64 m.gen, .int .i64 m.kind, .int .i64 m.term, .int .i64 m.index, .int .i64 m.last, .int .i64 m.commit, .bool m.yes, .slice at' m.terms.length act, .slice ae m.es.length ace, .slice ao m.old.length aco, .slice an m.new.length acn]] y fun e w' => ∃ aol k cl, e = .returned (.agg #[.int .i64 m.src, .int .i64 m.to, .int .i64 m.gen, .int .i64 (1 + m.kind % 15), .int .i64 m.term, .int .i64 m.index, .int .i64 m.last, .int .i64 m.commit, .bool m.yes, .slice at' (min m.terms.length 64) act, .slice aol k cl, .slice ao (min m.old.length 9) aco, .slice an (min m.new.length 9) acn]) ∧ Below y.heap.size y w' ∧ (j = 0 → ((m.es.take 64).map goodE).length = k ∧ k ≤ cl ∧ cl ≤ maxLen ∧ (aol = none → cl = 0) ∧ ∃ vs, w'.ownsRow y.heap.size 24 6 (.slice aol k cl) k vs ∧ Six w vs ((m.es.take 64).map goodE))) := by
      have it := MBd.t y (Same.refl _ _)
      have io := MBd.o y (Same.refl _ _)
      have in' := MBd.n y (Same.refl _ _)
      by_cases hj0 : j = 0
      · refine (goodMsg_any m.src m.to m.gen m.kind m.term m.index m.last m.commit m.yes at' ae ao an m.terms.length act m.es.length ace m.old.length aco m.new.length acn m.es rfl it.room it.big (Nat.le_trans MBd.room.1 MBd.room.2.1) io.room io.big in'.room in'.big it.nul io.nul in'.nul y w Bd (unhide ORG hj0).2.1).mono ?_
        rintro e w' ⟨aol, k, cl, h1, h2, h3, h4, h5, h6, h7⟩
        exact ⟨aol, k, cl, h1, h7, fun _ => ⟨h2, h3, h4, h5, h6⟩⟩
      · refine (goodMsg_any m.src m.to m.gen m.kind m.term m.index m.last m.commit m.yes at' ae ao an m.terms.length act m.es.length ace m.old.length aco m.new.length acn m.es rfl it.room it.big (Nat.le_trans MBd.room.1 MBd.room.2.1) io.room io.big in'.room in'.big it.nul io.nul in'.nul y y (Below.refl _ _) (MBd.e y (Same.refl _ _))).mono ?_
        rintro e w' ⟨aol, k, cl, h1, h2, h3, h4, h5, h6, h7⟩
        exact ⟨aol, k, cl, h1, h7, fun h => absurd h hj0⟩
    obtain ⟨a0, a1, a2, a3, a4, a5, a6, a7, a8, a9, a10, a11, a12⟩ := mbox_cells MBd.box
    have MBD := hide MBd
    have OBD := hide OBd
    have BD := hide Bd
    clear MBd OBd Bd
    go_wp2_with fail
    refine (unhide GG).mono ?_
    rintro r w9 ⟨aol, kl, cl, rfl, b9, hgood⟩
    have MB10 := hide ((unhide MBD).below b9)
    have OB10 := hide ((unhide OBD).below b9)
    have B10 := hide ((unhide BD).trans (b9.mono (unhide BD).size))
    have HGD := hide hgood
    obtain ⟨c0, c1, c2, c3, c4, c5, c6, c7, c8, c9, c10, c11, c12⟩ := mbox_cells (unhide MB10).box
    have fb : ∀ i, w9.frozen? ⟨B, i, none⟩ = false := fun i => free_of_block (unhide MB10).box
    clear b9 GG hgood MBD OBD BD a0 a1 a2 a3 a4 a5 a6 a7 a8 a9 a10 a11 a12
    go_wp2
    go_roundg (2 - (j + 1))
    case measure => have := unhide HJ; omega
    case rel =>
      obtain ⟨wz, hwz⟩ : ∃ wz, wz = (((((((((((((w9.setCell ⟨B, 0, none⟩ (.int .i64 m.src)).setCell ⟨B, 1, none⟩ (.int .i64 m.to)).setCell ⟨B, 2, none⟩ (.int .i64 m.gen)).setCell ⟨B, 3, none⟩ (.int .i64 (1 + m.kind % 15))).setCell ⟨B, 4, none⟩ (.int .i64 m.term)).setCell ⟨B, 5, none⟩ (.int .i64 m.index)).setCell ⟨B, 6, none⟩ (.int .i64 m.last)).setCell ⟨B, 7, none⟩ (.int .i64 m.commit)).setCell ⟨B, 8, none⟩ (.bool m.yes)).setCell ⟨B, 9, none⟩ (.slice at' (min m.terms.length 64) act)).setCell ⟨B, 10, none⟩ (.slice aol kl cl)).setCell ⟨B, 11, none⟩ (.slice ao (min m.old.length 9) aco)).setCell ⟨B, 12, none⟩ (.slice an (min m.new.length 9) acn)) := ⟨_, rfl⟩
      rw [← hwz]
      obtain ⟨hbx, hkp⟩ := chain13 (unhide MB10).box hwz
      have hBw : w.heap.size = B := unhide HB
      have hsm : Same B w9 wz := Same.kept hkp (Or.inl rfl)
      have hobx : wz.heap[B + 1]? = w9.heap[B + 1]? := hkp.2 _ (blk_lt' (unhide OB10).box) (by omega)
      have e1 : (m.terms.take 64).length = min m.terms.length 64 := by rw [List.length_take, Nat.min_comm]
      have e2 : (m.old.take 9).length = min m.old.length 9 := by rw [List.length_take, Nat.min_comm]
      have e3 : (m.new.take 9).length = min m.new.length 9 := by rw [List.length_take, Nat.min_comm]
      refine ⟨j + 1, goodM m, at', aol, ao, an, act, cl, aco, acn, by omega, by go_num, fun hj1 => ?_, fun h => by omega, (unhide B10).trans (by rw [hBw]; exact hkp.1)⟩
      have hj0 : j = 0 := by omega
      obtain ⟨g1, g2, g3, g4, vs, g5, g6⟩ := unhide HGD hj0
      obtain ⟨o1, -, o3, o4⟩ := unhide ORG hj0
      refine ⟨⟨?_, ⟨by show ((m.es.take 64).map goodE).length ≤ cl; rw [g1]; exact g2, g3, g4⟩, fun w' h => ?_, fun w' h => six_same g6 g1 (by omega) hB2 (unhide B10) g5 (hsm.trans h), fun w' h => ?_, fun w' h => ?_, goodM_in64 (unhide MB10).in64, goodM_few m⟩, (unhide OB10).same hsm hobx⟩
      · show wz.heap[B]? = some (.cells #[.int .i64 m.src, .int .i64 m.to, .int .i64 m.gen, .int .i64 (1 + m.kind % 15), .int .i64 m.term, .int .i64 m.index, .int .i64 m.last, .int .i64 m.commit, .bool m.yes, .slice at' (m.terms.take 64).length act, .slice aol ((m.es.take 64).map goodE).length cl, .slice ao (m.old.take 9).length aco, .slice an (m.new.take 9).length acn] 41 (0, 0))
        rw [e1, e2, e3, g1]; exact hbx
      · have := (o1.take 64).same (by omega) (unhide B10) (hsm.trans h)
        show IntsAt w' at' (m.terms.take 64).length act (m.terms.take 64)
        rw [e1]; exact this
      · have := (o3.take 9).same (by omega) (unhide B10) (hsm.trans h)
        show IntsAt w' ao (m.old.take 9).length aco (m.old.take 9)
        rw [e2]; exact this
      · have := (o4.take 9).same (by omega) (unhide B10) (hsm.trans h)
        show IntsAt w' an (m.new.take 9).length acn (m.new.take 9)
        rw [e3]; exact this
end Go.Proofs.YthjpdglbliigcaaDoor

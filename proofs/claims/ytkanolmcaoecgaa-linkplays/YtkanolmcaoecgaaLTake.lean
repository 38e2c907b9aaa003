/- link's Take: contracts. -/
import Derived.Test.YtkanolmcaoecgaaLLink
namespace Go.Proofs.Ytkanolmcaoecgaa
open Go.RowKit Go.Maps

set_option maxRecDepth 20000 in
set_option maxHeartbeats 2000000 in
theorem take_refused {base p s q : Nat} {life : Int} {sent : Int → Nat} {heard : Int → Hd} {ref c : Nat} (x l n e : Int) (w : World) (hx : wf64 x) (hc : c < 1000000) (hb : base ≤ p ∧ base ≤ s ∧ base ≤ q) (hbase : base ≤ w.heap.size) (h : Lk w p s q life sent heard ref c)
    (hE : ∀ w, Calls Try.prog 19 #[.agg (heard x).cells, .int .i64 l, .int .i64 n] w fun r w' => (∃ b, r = .returned (refV b) ∧ Ref w' b e) ∧ Below w.heap.size w w') (hne : numR e = e) :
    Calls Try.prog 13 #[.pointer (some ⟨p, 0, none⟩), .int .i64 x, .int .i64 l, .int .i64 n] w fun r w' => r = .returned (.int .i64 e) ∧ Lk w' p s q life sent heard (ref + 1) (c + 1) ∧ Kept base (foot p s q) w w' := by
  obtain ⟨g, hg⟩ : ∃ g, heard x = g := ⟨_, rfl⟩
  rw [hg] at hE
  obtain ⟨Ds, Dh, a1, a2, a3, a4, a5, a6, a7, a8, a9⟩ := id h
  have c2 : w.cell? ⟨p, 2, none⟩ = some (.map (some q)) := bcell a1 rfl
  have lk := look_heard a4 hx (by rw [a6 x, hg])
  have gok : g.ok := by rw [← hg]; exact a8 x
  simp only [Hd.cells] at lk
  obtain ⟨W, hW, x1, bW, sW⟩ := box_heard w g
  have d0 : W.cell? ⟨w.heap.size, 0, none⟩ = some (.int .i64 (g.life : Int)) := bcell x1 rfl
  have d1 : W.cell? ⟨w.heap.size, 1, none⟩ = some (.int .i64 (g.top : Int)) := bcell x1 rfl
  have d2 : W.cell? ⟨w.heap.size, 2, none⟩ = some (.int .u64 (g.w0 : Int)) := bcell x1 rfl
  have d3 : W.cell? ⟨w.heap.size, 3, none⟩ = some (.int .u64 (g.w1 : Int)) := bcell x1 rfl
  have d4 : W.cell? ⟨w.heap.size, 4, none⟩ = some (.int .u64 (g.w2 : Int)) := bcell x1 rfl
  have d5 : W.cell? ⟨w.heap.size, 5, none⟩ = some (.int .u64 (g.w3 : Int)) := bcell x1 rfl
  have hp := blk_lt' a1
  have hE' := hE
  simp only [Hd.cells] at hE'
  have RF := hide hE'
  obtain ⟨m, hm⟩ : ∃ m, ref + 1 = m := ⟨_, rfl⟩
  rw [hm]
  have e1 : ((ref : Int) + 1) = (m : Int) := by omega
  have wr1 : IntKind.i64.wrap (m : Int) = (m : Int) := by
    simp only [IntKind.wrap, IntKind.bits, IntKind.signed]
    simp
    omega
  have HL := hide h
  have HW := hide hW
  have BW := hide bW
  have SW := hide sW
  have HM := hide hm
  have HNE := hide hne
  have hps : p ≠ s := fun e => by subst e; obtain ⟨es, cl, g1, _⟩ := a3; rw [a1] at g1; cases g1
  have hpq : p ≠ q := fun e => by subst e; obtain ⟨es, cl, g1, _⟩ := a4; rw [a1] at g1; cases g1
  have PS := hide (And.intro hps hpq)
  clear hE hE' hg a1 a2 a3 a4 a5 a6 a7 a8 a9 x1 hW bW sW gok h hm hx hne hps hpq
  go_enter Try.func13, Try.ntmps13
  go_upto_region 2 with fail
  rw [show w.alloc (.cells #[.int .i64 (g.life : Int), .int .i64 (g.top : Int), .int .u64 (g.w0 : Int), .int .u64 (g.w1 : Int), .int .u64 (g.w2 : Int), .int .u64 (g.w3 : Int)] 59) = W from unhide HW]
  clear HW c2 lk
  go_wp2_with fail
  refine (unhide RF _).mono ?_
  rintro e' w1 ⟨⟨b, rfl, rb⟩, b1⟩
  have sW := unhide SW
  have bb : Below w.heap.size w w1 := (unhide BW).trans (b1.mono (by omega))
  have h1 : Lk w1 p s q life sent heard ref c := (unhide HL).below bb
  obtain ⟨Ds, Dh, a1, a2, a3, a4, a5, a6, a7, a8, a9⟩ := h1
  have c3 : w1.cell? ⟨p, 3, none⟩ = some (.int .i64 (ref : Int)) := bcell a1 rfl
  have f3 : w1.frozen? ⟨p, 3, none⟩ = false := free_of_block a1
  obtain ⟨W2, hW2⟩ : ∃ W2, w1.setCell ⟨p, 3, none⟩ (.int .i64 (m : Int)) = W2 := ⟨_, rfl⟩
  have k2 : ∀ k, k ≠ p → W2.heap[k]? = w1.heap[k]? := fun k hk => by rw [← hW2]; exact Below.heap_setCell w1 ⟨p, 3, none⟩ _ k hk
  have p2 : W2.heap[p]? = some (.cells #[.int .i64 life, .map (some s), .map (some q), .int .i64 (m : Int)] 53 (0, 0)) := by rw [← hW2, setCell_block a1]; rfl
  have hbp : b ≠ p := fun e => by subst e; obtain ⟨y, z, g1⟩ := rb; rw [a1] at g1; cases g1
  have r2 : Ref W2 b e := by obtain ⟨y, z, g1⟩ := rb; exact ⟨y, z, (k2 b hbp).trans g1⟩
  have NB := number_ref e b W2 r2
  rw [unhide HNE] at NB
  have hm := unhide HM
  have LK : Hid (Lk W2 p s q life sent heard m (c + 1)) := by
    obtain ⟨es, cl, g1, g2⟩ := a3.mono (Nat.le_succ c)
    obtain ⟨fs, dl, g3, g4⟩ := a4.mono (Nat.le_succ c)
    exact ⟨Ds, Dh, p2, a2, ⟨es, cl, (k2 s (unhide PS).1.symm).trans g1, g2⟩, ⟨fs, dl, (k2 q (unhide PS).2.symm).trans g3, g4⟩, a5, a6, fun y => Nat.le_succ_of_le (a7 y), a8, by omega⟩
  have KP : Hid (Kept base (foot p s q) w W2) := by
    refine ⟨?_, fun k hk hn => (k2 k (fun e => hn (Or.inl e))).trans (bb.block k hk)⟩
    rw [← hW2]; exact (bb.mono hbase).setCell (p := ⟨p, 3, none⟩) hb.1 _
  have HW2 := hide hW2
  have NU := hide NB
  clear a1 a2 a3 a4 a5 a6 a7 a8 a9 hW2 k2 p2 hbp rb r2 NB bb b1 hm HM RF BW SW sW HL PS d0 d1 d2 d3 d4 d5 hp hb
  unfold refV
  go_upto_region 5 with fail
  rw [unhide HW2]
  go_wp2_with (go_at_call 20; refine (unhide NU).mono ?_; rintro e' w3 ⟨rfl, rfl⟩)
  go_ret
  exact ⟨rfl, unhide LK, unhide KP⟩

set_option maxRecDepth 20000 in
set_option maxHeartbeats 2000000 in
theorem take_ok {base p s q : Nat} {life : Int} {sent : Int → Nat} {heard : Int → Hd} {ref c : Nat} (x : Int) (l n : Nat) (w : World) (hx : wf64 x) (hl : l < 9223372036854775808) (hn : n < 9223372036854775808) (hc : c < 1000000) (hb : base ≤ p ∧ base ≤ s ∧ base ≤ q) (hbase : base ≤ w.heap.size) (h : Lk w p s q life sent heard ref c)
    (hE : ∀ w, Calls Try.prog 19 #[.agg (heard x).cells, .int .i64 (l : Int), .int .i64 (n : Int)] w fun r w' => r = .returned .nilIface ∧ Below w.heap.size w w') :
    Calls Try.prog 13 #[.pointer (some ⟨p, 0, none⟩), .int .i64 x, .int .i64 (l : Int), .int .i64 (n : Int)] w fun r w' => r = .returned (.int .i64 0) ∧ Lk w' p s q life sent (upH heard x ((heard x).taking l n)) ref (c + 1) ∧ Kept base (foot p s q) w w' := by
  obtain ⟨g, hg⟩ : ∃ g, heard x = g := ⟨_, rfl⟩
  rw [hg] at hE
  obtain ⟨Ds, Dh, a1, a2, a3, a4, a5, a6, a7, a8, a9⟩ := id h
  have c2 : w.cell? ⟨p, 2, none⟩ = some (.map (some q)) := bcell a1 rfl
  have lk := look_heard a4 hx (by rw [a6 x, hg])
  have gok : g.ok := by rw [← hg]; exact a8 x
  simp only [Hd.cells] at lk
  obtain ⟨W, hW, x1, bW, sW⟩ := box_heard w g
  have d0 : W.cell? ⟨w.heap.size, 0, none⟩ = some (.int .i64 (g.life : Int)) := bcell x1 rfl
  have d1 : W.cell? ⟨w.heap.size, 1, none⟩ = some (.int .i64 (g.top : Int)) := bcell x1 rfl
  have d2 : W.cell? ⟨w.heap.size, 2, none⟩ = some (.int .u64 (g.w0 : Int)) := bcell x1 rfl
  have d3 : W.cell? ⟨w.heap.size, 3, none⟩ = some (.int .u64 (g.w1 : Int)) := bcell x1 rfl
  have d4 : W.cell? ⟨w.heap.size, 4, none⟩ = some (.int .u64 (g.w2 : Int)) := bcell x1 rfl
  have d5 : W.cell? ⟨w.heap.size, 5, none⟩ = some (.int .u64 (g.w3 : Int)) := bcell x1 rfl
  have hp := blk_lt' a1
  have hE' := hE
  simp only [Hd.cells] at hE'
  have RF := hide hE'
  obtain ⟨t, ht⟩ : ∃ t, g.taking l n = t := ⟨_, rfl⟩
  have tok : t.ok := by rw [← ht]; exact taking_ok gok hl hn
  have tk := fun w => taking_any g l n w gok hl hn
  rw [ht] at tk
  rw [show (heard x).taking l n = t by rw [hg, ht]]
  simp only [Hd.cells] at tk
  have TK := hide tk
  have TOK := hide tok
  have HL := hide h
  have HW := hide hW
  have BW := hide bW
  have SW := hide sW
  have X1 := hide x1
  have HX := hide hx
  have hps : p ≠ s := fun e => by subst e; obtain ⟨es, cl, g1, _⟩ := a3; rw [a1] at g1; cases g1
  have hpq : p ≠ q := fun e => by subst e; obtain ⟨es, cl, g1, _⟩ := a4; rw [a1] at g1; cases g1
  have PS := hide (And.intro hps hpq)
  clear hE hE' hg a1 a2 a3 a4 a5 a6 a7 a8 a9 x1 hW bW sW gok h hx hps hpq tk tok ht
  go_enter Try.func13, Try.ntmps13
  go_upto_region 2 with fail
  rw [show w.alloc (.cells #[.int .i64 (g.life : Int), .int .i64 (g.top : Int), .int .u64 (g.w0 : Int), .int .u64 (g.w1 : Int), .int .u64 (g.w2 : Int), .int .u64 (g.w3 : Int)] 59) = W from unhide HW]
  clear HW c2 lk
  go_wp2_with fail
  refine (unhide RF _).mono ?_
  rintro e' w1 ⟨rfl, b1⟩
  have sW := unhide SW
  have bb : Below w.heap.size w w1 := (unhide BW).trans (b1.mono (by omega))
  have h1 : Lk w1 p s q life sent heard ref c := (unhide HL).below bb
  have s1 := b1.size
  have x2 : w1.heap[w.heap.size]? = some (.cells g.cells 59 (0, 0)) := (b1.block _ (by omega)).trans (unhide X1)
  have y0 : w1.cell? ⟨w.heap.size, 0, none⟩ = some (.int .i64 (g.life : Int)) := bcell x2 rfl
  have y1 : w1.cell? ⟨w.heap.size, 1, none⟩ = some (.int .i64 (g.top : Int)) := bcell x2 rfl
  have y2 : w1.cell? ⟨w.heap.size, 2, none⟩ = some (.int .u64 (g.w0 : Int)) := bcell x2 rfl
  have y3 : w1.cell? ⟨w.heap.size, 3, none⟩ = some (.int .u64 (g.w1 : Int)) := bcell x2 rfl
  have y4 : w1.cell? ⟨w.heap.size, 4, none⟩ = some (.int .u64 (g.w2 : Int)) := bcell x2 rfl
  have y5 : w1.cell? ⟨w.heap.size, 5, none⟩ = some (.int .u64 (g.w3 : Int)) := bcell x2 rfl
  obtain ⟨Ds, Dh, a1, a2, a3, a4, a5, a6, a7, a8, a9⟩ := id h1
  have c2 : w1.cell? ⟨p, 2, none⟩ = some (.map (some q)) := bcell a1 rfl
  have L1 := hide h1
  have BB := hide bb
  have hp1 := blk_lt' a1
  clear a1 a2 a3 a4 a5 a6 a7 a8 a9 h1 bb b1 x2 X1 RF BW SW HL d0 d1 d2 d3 d4 d5
  go_upto_region 6 with fail
  go_region_with (first
    | (go_at_call 21
       refine (unhide TK _).mono ?_
       rintro e' w2 ⟨rfl, b2⟩
       have b3 : Below w1.heap.size w1 w2 := ((Below.refl _ w1).drew).trans b2
       have h2 : Lk w2 p s q life sent heard ref c := (unhide L1).below b3
       have bb2 : Below w.heap.size w w2 := (unhide BB).trans (b3.mono (by omega))
       obtain ⟨Ds, Dh, a1, a2, a3, a4, a5, a6, a7, a8, a9⟩ := id h2
       have z2 : w2.cell? ⟨p, 2, none⟩ = some (.map (some q)) := bcell a1 rfl
       obtain ⟨W3, hrun, own, grow⟩ := a4.update keyed Try.underlying51 (by unfold maxLen; omega) (keyOf_int_mk Try.underlying3 (unhide HX)) (val := .agg t.cells) rfl
       simp only [Hd.cells] at hrun
       have OWN := hide own
       have GROW := hide grow
       have BB2 := hide bb2
       have L2 := hide h2
       have DE := hide (show a4.isMap = a4.isMap from rfl)
       have IM := hide (And.intro a4.isMap a6)
       clear a1 a2 a3 a4 a5 a6 a7 a8 a9 own grow bb2 b3 b2 h2 DE))
  all_goals (
    go_wp2
    go_ret
    obtain ⟨Ds', Dh', a1, a2, a3, a4, a5, a6, a7, a8, a9⟩ := unhide L2
    have grow := unhide GROW
    have hps := (unhide PS).1
    have hpq := (unhide PS).2
    have bP : W3.heap[p]? = w2.heap[p]? := grow.block p (blk_lt' a1) (by simpa using hpq)
    have bS : W3.heap[s]? = w2.heap[s]? := grow.block s a3.lt (by simpa using a2)
    refine ⟨rfl, ⟨Ds', _, bP.trans a1, a2, ?_, unhide OWN, a5, fun y => ?_, fun y => Nat.le_succ_of_le (a7 y), fun y => ?_, by omega⟩, ?_⟩
    · obtain ⟨es, cl, g1, g2⟩ := a3.mono (Nat.le_succ c)
      exact ⟨es, cl, bS.trans g1, g2⟩
    · unfold upH
      by_cases e : y = x
      · rw [if_pos e, e, atKey_put_same (unhide IM).1 (by simp [WideAt.IsKeyLit])]
      · rw [if_neg e, atKey_put_other (by simpa using e), (unhide IM).2 y]
    · unfold upH
      split
      · exact unhide TOK
      · exact a8 y
    · refine ⟨((unhide BB2).mono hbase).grown grow (Nat.le_trans hbase (unhide BB2).size) (fun k hk => by cases hk; exact hb.2.2), fun k hk hn => ?_⟩
      rw [← (unhide BB2).block k hk]
      exact grow.block k (Nat.lt_of_lt_of_le hk (unhide BB2).size) (fun e => hn (Or.inr (Or.inr (by simpa using e)))))
end Go.Proofs.Ytkanolmcaoecgaa

/- The reference's at: a contract. -/
import Derived.Test.YtkanolmcaoecgaaLRef
namespace Go.Proofs.Ytkanolmcaoecgaa
open Go.RowKit

theorem Try.infoP : (Try.prog.info? 55).map (fun i => (i.zero, i.size, i.bytes)) = some (some (.agg #[.int .i64 0, .int .i64 0, .int .i64 0, .int .i64 0, .slice none 0 0]), 5, 56) := by kernel_rfl
theorem infoPeer : ∃ i, Try.prog.info? 55 = some i ∧ i.zero = some (.agg #[.int .i64 0, .int .i64 0, .int .i64 0, .int .i64 0, .slice none 0 0]) ∧ i.size = 5 ∧ i.bytes = 56 := by
  obtain ⟨i, hi, h⟩ := Option.map_eq_some_iff.1 Try.infoP
  simp only [Prod.mk.injEq] at h
  exact ⟨i, hi, h.1, h.2.1, h.2.2⟩
theorem fresh_one (id : Int) : ∀ u ∈ (fresh id).cells, u.oneCell' = true := fun u hu => by
  simp only [fresh, Pr.cells, List.mem_cons, List.not_mem_nil, or_false] at hu
  rcases hu with rfl | rfl | rfl | rfl | rfl <;> rfl
theorem own_slice {w : World} {base : Nat} {e : TypeId} {size n : Nat} {v : Value} {xs : List Value} (h : w.ownsRow base e size v n xs) : ∃ ao cap, v = .slice ao n cap ∧ n ≤ cap ∧ cap ≤ maxLen := by
  rcases h.2 with ⟨rfl, rfl⟩ | ⟨g, cap, cur, rfl, hb, hh, hc, hm, _⟩
  · exact ⟨none, 0, rfl, Nat.le_refl _, by decide⟩
  · exact ⟨_, cap, rfl, hc, hm⟩
/-- one peer more. -/
theorem Pw.push {base : Nat} {w : World} {v : Value} {n : Nat} {ps : List Pr} {r : Pr} {xs : List Value} (h : w.ownsRow base 55 5 v (n + 1) (xs ++ r.cells)) (hn : ps.length = n) (hx : ∀ (i : Nat) (r : Pr) (j : Nat) (u : Value), ps[i]? = some r → r.cells[j]? = some u → xs[i * 5 + j]? = some u) : Pw base w v (ps ++ [r]) := by
  have hl : xs.length = n * 5 := by have h1 := h.1; have h5 : r.cells.length = 5 := rfl; rw [List.length_append, h5] at h1; omega
  refine ⟨xs ++ r.cells, by rw [List.length_append, hn]; exact h, fun i q j u hq hu => ?_⟩
  have hj := cells_lt hu
  by_cases e : i < ps.length
  · rw [List.getElem?_append_left e] at hq
    have := hx i q j u hq hu
    rw [List.getElem?_append_left (by omega)]; exact this
  · rw [List.getElem?_append_right (by omega)] at hq
    have hi : i = ps.length := by
      have := (List.getElem?_eq_some_iff.1 hq).1; simp at this; omega
    subst hi
    simp at hq; subst hq
    rw [List.getElem?_append_right (by omega), show ps.length * 5 + j - xs.length = j by omega]; exact hu

set_option maxRecDepth 20000 in
set_option maxHeartbeats 1000000 in
theorem at_any {base x : Nat} {v : Value} {life : Int} {ref : Nat} {ps : List Pr} (id : Int) (w : World) (h : Xk base w x v life ref ps) (hl : ps.length ≤ 1000000) (hbase : base ≤ w.heap.size) :
    Calls Try.prog 18 #[.pointer (some ⟨x, 0, none⟩), .int .i64 id] w fun e w' => e = .returned (.int .i64 (pos ps id : Int)) ∧ (∃ v', Xk base w' x v' life ref (more ps id)) ∧ Only base [30, 55] w w' := by
  have h0 := h
  obtain ⟨hbx, h2, h3, h4⟩ := h0
  have c2 : w.cell? ⟨x, 2, none⟩ = some v := bcell h2 rfl
  have HX := hide h2
  have HNS := hide h4
  have HXK := hide h
  rcases h3.slice with ⟨rfl, rfl⟩ | ⟨g, cap, cs, rfl, hg, hh, hc, hm⟩
  · obtain ⟨ps, hps⟩ : ∃ ps : List Pr, ps = [] := ⟨_, rfl⟩
    rw [← hps] at h3 HXK ⊢
    have HP := hide h3
    obtain ⟨n, hn⟩ : ∃ n, ps.length = n := ⟨_, rfl⟩
    have HN := hide hn
    have hl : n ≤ 1000000 := by rw [← hn, hps]; decide
    have HNS : Hid (∀ r ∈ ps, Nw base w r) := by rw [hps]; exact fun r hr => by simp at hr
    have HNE : Hid (∀ j q, j < ps.length → ps[j]? = some q → q.id ≠ id) := by rw [hps]; exact fun j q hj => by simp at hj
    clear h2 h3 h4 h hps hn
    go_enter Try.func18, Try.ntmps18
    go_wp2
    go_loopg [5] 0 (fun gg iv wr => iv = .int .i64 0 ∧ wr = w)
    case atStart => exact ⟨rfl, rfl⟩
    case round =>
      obtain ⟨rfl, rfl⟩ := hrel
      obtain ⟨w, rfl⟩ : ∃ w, w = wr := ⟨_, rfl⟩
      obtain ⟨xs, hown, hxs⟩ := unhide HP
      rw [unhide HN] at hown
      obtain ⟨W1, hW1⟩ : ∃ W1, w.alloc (.cells #[.int .i64 id, .int .i64 0, .int .i64 0, .int .i64 0, .slice none 0 0] 55) = W1 := ⟨_, rfl⟩
      have bW : Below w.heap.size w W1 := by rw [← hW1]; exact (Below.refl _ w).alloc (Nat.le_refl _) _
      have own1 := own_below hown bW
      have nw : ∀ i u, (fresh id).cells[i]? = some u → W1.cell? ((⟨w.heap.size, 0, none⟩ : Addr).add i) = some u := by rw [← hW1]; exact fun i u h => news_at i u h
      have x1 : W1.heap[x]? = some (.cells #[.int .i64 life, .int .i64 (ref : Int), .slice none 0 0] 30 (0, 0)) := (bW.block x (blk_lt' (unhide HX))).trans (unhide HX)
      have f1 : ∀ j, W1.frozen? ⟨x, j, none⟩ = false := fun j => free_of_block x1
      have d2 : W1.cell? ⟨x, 2, none⟩ = some (.slice none 0 0) := bcell x1 rfl
      obtain ⟨i0, hi0, hz0, hz1, hz2⟩ := infoPeer
      have hbW : base ≤ W1.heap.size := Nat.le_trans hbase bW.size
      have OWN1 := hide own1
      have HXS := hide hxs
      have NW := hide nw
      have HW1 := hide hW1
      have X1 := hide x1
      have BW := hide bW
      clear hown hxs own1 nw hW1 x1 bW
      go_wp2_with (at_builtin
                   rw [unhide HW1]
                   refine wpList_append_own _ rfl (.tmp 30) (.tmp 33) 28 rfl base 55 i0 (.agg #[.int .i64 0, .int .i64 0, .int .i64 0, .int .i64 0, .slice none 0 0]) 5 56 Try.underlying28 hi0 hz0 hz1 hz2 rfl (by decide) _ _ _ rfl (unhide OWN1) ⟨w.heap.size, 0, none⟩ 1 1 (fresh id).cells rfl rfl (unhide NW) (fresh_one id) (by unfold maxLen; omega) (by omega) hbW ?_
                   intro v5 w5 own5 grow5 _
                   have x5 : w5.heap[x]? = some (.cells #[.int .i64 life, .int .i64 (ref : Int), .slice none 0 0] 30 (0, 0)) := (grow5.block x (blk_lt' (unhide X1)) (fun e => by obtain ⟨_, cs', fr', hh'⟩ := own_tag (unhide OWN1) x e.symm; rw [unhide X1] at hh'; cases hh')).trans (unhide X1)
                   have c5 : w5.cell? ⟨x, 2, none⟩ = some (.slice none 0 0) := bcell x5 rfl
                   have f5 : w5.frozen? ⟨x, 2, none⟩ = false := free_of_block x5
                   obtain ⟨ao5, cap5, rfl, hc5, hm5⟩ := own_slice own5
                   have OWN5 := hide own5
                   have GR5 := hide grow5
                   have X5 := hide x5
                   clear own5 grow5 x5)
      obtain ⟨W6, hW6⟩ : ∃ W6, w5.setCell ⟨x, 2, none⟩ (.slice ao5 (n + 1) cap5) = W6 := ⟨_, rfl⟩
      have x6 : W6.heap[x]? = some (.cells #[.int .i64 life, .int .i64 (ref : Int), .slice ao5 (n + 1) cap5] 30 (0, 0)) := by rw [← hW6, setCell_block (unhide X5)]; rfl
      have k6 : ∀ b, b ≠ x → W6.heap[b]? = w5.heap[b]? := fun b hb => by rw [← hW6]; exact Below.heap_setCell w5 ⟨x, 2, none⟩ _ b hb
      have d6 : W6.cell? ⟨x, 2, none⟩ = some (.slice ao5 (n + 1) cap5) := bcell x6 rfl
      have FIN : Hid ((∃ v', Xk base W6 x v' life ref (more ps id)) ∧ Only base [30, 55] w W6) := by
        have hps := pos_end id ps (unhide HNE)
        have grow5 := unhide GR5
        rw [more_new id ps hps.1]
        have pw5 : Pw base w5 (.slice ao5 (n + 1) cap5) (ps ++ [fresh id]) := Pw.push (unhide OWN5) (unhide HN) (unhide HXS)
        have o5 : Only base [30, 55] w w5 := ((Only.of_below (unhide BW) hbase).own (unhide OWN1) grow5 hbW (Nat.le_refl _) (by simp))
        have o6 : Only base [30, 55] w W6 := by rw [← hW6]; exact o5.setCell (p := ⟨x, 2, none⟩) hbx _ (unhide X5) (by simp)
        refine ⟨⟨_, hbx, x6, pw5.kept (fun b cs hb => k6 b (fun e => by subst e; rw [unhide X5] at hb; cases hb)), fun r hr => ?_⟩, o6⟩
        rcases List.mem_append.1 hr with hr | hr
        · exact (unhide HNS r hr).only o6 (by decide)
        · simp only [List.mem_singleton] at hr; subst hr; exact ⟨rfl, Or.inl ⟨rfl, rfl⟩⟩
      have HPOS : Hid ((pos ps id : Int) = (n : Nat)) := by show _ = _; rw [(pos_end id ps (unhide HNE)).1, unhide HN]
      have HW6 := hide hW6
      clear hW6 x6 k6 OWN5 GR5 X5 c5 f5 d2 f1 hi0 hz0 hz1 hz2 OWN1 HXS NW HW1 X1 BW
      go_upto_region 7 with fail
      rw [unhide HW6]
      go_wp2
      go_ret
      refine ⟨?_, unhide FIN⟩
      rw [unhide HPOS]
      first | rfl | (simp; done)
  · obtain ⟨n, hn⟩ : ∃ n, ps.length = n := ⟨_, rfl⟩
    rw [hn] at c2 h3 hl
    have HX : Hid (w.heap[x]? = some (.cells #[.int .i64 life, .int .i64 (ref : Int), .slice (some ⟨g, 0, none⟩) n cap] 30 (0, 0))) := by rw [← hn]; exact h2
    have HP := hide h3
    have HN := hide hn
    clear h2 h3 h4 hh hc hn h
    go_enter Try.func18, Try.ntmps18
    go_upto_region 2 with fail
    go_loopg [5] n (fun gg iv wr => ∃ k : Nat, k + gg = n ∧ iv = .int .i64 (k : Int) ∧ wr = w ∧ ∀ j q, j < k → ps[j]? = some q → q.id ≠ id)
    case atStart => exact ⟨0, by omega, rfl, rfl, fun j q hj => absurd hj (by omega)⟩
    case round =>
      obtain ⟨k, hgk, rfl, rfl, hne⟩ := hrel
      obtain ⟨w, rfl⟩ : ∃ w, w = wr := ⟨_, rfl⟩
      by_cases hlt : k < n
      · obtain ⟨r, hr⟩ : ∃ r, ps[k]? = some r := ⟨_, List.getElem?_eq_getElem (by rw [unhide HN]; exact hlt)⟩
        have e0 : w.cell? ⟨g, k * 5, none⟩ = some (.int .i64 r.id) := ((unhide HP).cell (unhide HN).symm hr (j := 0) rfl).1
        have hkI : (k : Int) < (n : Int) := by omega
        have HG := hide hgk
        have HE := hide hne
        have HR := hide hr
        by_cases hid : r.id = id
        · have hpos := (pos_at id ps k r hne hr hid).1
          have HPOS := hide hpos
          have HM : Hid (more ps id = ps) := more_found id ps (by rw [hpos, unhide HN]; exact hlt)
          rw [hid] at e0
          clear hid hgk hne hr hpos
          go_wp2
          go_ret
          exact ⟨by rw [unhide HPOS]; rfl, ⟨_, by rw [unhide HM]; exact unhide HXK⟩, Only.refl _ _ _⟩
        · clear hgk hne hr
          have hb : (r.id == id) = false := by simp [hid]
          have HID := hide hid
          clear hid
          go_wp2
          go_roundg (n - (k + 1))
          case measure => have := unhide HG; omega
          case rel =>
            refine ⟨k + 1, by omega, by go_num, rfl, fun j q hj hq => ?_⟩
            by_cases e : j = k
            · subst e; rw [unhide HR] at hq; cases hq; exact unhide HID
            · exact unhide HE j q (by omega) hq
      · have hk : k = n := by omega
        have hkI : ¬ (k : Int) < (n : Int) := by omega
        have HNE : Hid (∀ j q, j < ps.length → ps[j]? = some q → q.id ≠ id) := by show ∀ j q, _; rw [unhide HN, ← hk]; exact hne
        clear hne hgk hk
        obtain ⟨xs, hown, hxs⟩ := unhide HP
        rw [unhide HN] at hown
        obtain ⟨W1, hW1⟩ : ∃ W1, w.alloc (.cells #[.int .i64 id, .int .i64 0, .int .i64 0, .int .i64 0, .slice none 0 0] 55) = W1 := ⟨_, rfl⟩
        have bW : Below w.heap.size w W1 := by rw [← hW1]; exact (Below.refl _ w).alloc (Nat.le_refl _) _
        have own1 := own_below hown bW
        have nw : ∀ i u, (fresh id).cells[i]? = some u → W1.cell? ((⟨w.heap.size, 0, none⟩ : Addr).add i) = some u := by rw [← hW1]; exact fun i u h => news_at i u h
        have x1 : W1.heap[x]? = some (.cells #[.int .i64 life, .int .i64 (ref : Int), .slice (some ⟨g, 0, none⟩) n cap] 30 (0, 0)) := (bW.block x (blk_lt' (unhide HX))).trans (unhide HX)
        have f1 : ∀ j, W1.frozen? ⟨x, j, none⟩ = false := fun j => free_of_block x1
        have d2 : W1.cell? ⟨x, 2, none⟩ = some (.slice (some ⟨g, 0, none⟩) n cap) := bcell x1 rfl
        obtain ⟨i0, hi0, hz0, hz1, hz2⟩ := infoPeer
        have hbW : base ≤ W1.heap.size := Nat.le_trans hbase bW.size
        have OWN1 := hide own1
        have HXS := hide hxs
        have NW := hide nw
        have HW1 := hide hW1
        have X1 := hide x1
        have BW := hide bW
        clear hown hxs own1 nw hW1 x1 bW
        go_wp2_with (at_builtin
                     rw [unhide HW1]
                     refine wpList_append_own _ rfl (.tmp 30) (.tmp 33) 28 rfl base 55 i0 (.agg #[.int .i64 0, .int .i64 0, .int .i64 0, .int .i64 0, .slice none 0 0]) 5 56 Try.underlying28 hi0 hz0 hz1 hz2 rfl (by decide) _ _ _ rfl (unhide OWN1) ⟨w.heap.size, 0, none⟩ 1 1 (fresh id).cells rfl rfl (unhide NW) (fresh_one id) (by unfold maxLen; omega) (by omega) hbW ?_
                     intro v5 w5 own5 grow5 _
                     have x5 : w5.heap[x]? = some (.cells #[.int .i64 life, .int .i64 (ref : Int), .slice (some ⟨g, 0, none⟩) n cap] 30 (0, 0)) := (grow5.block x (blk_lt' (unhide X1)) (fun e => by obtain ⟨_, cs', fr', hh'⟩ := own_tag (unhide OWN1) x e.symm; rw [unhide X1] at hh'; cases hh')).trans (unhide X1)
                     have c5 : w5.cell? ⟨x, 2, none⟩ = some (.slice (some ⟨g, 0, none⟩) n cap) := bcell x5 rfl
                     have f5 : w5.frozen? ⟨x, 2, none⟩ = false := free_of_block x5
                     obtain ⟨ao5, cap5, rfl, hc5, hm5⟩ := own_slice own5
                     have OWN5 := hide own5
                     have GR5 := hide grow5
                     have X5 := hide x5
                     clear own5 grow5 x5)
        obtain ⟨W6, hW6⟩ : ∃ W6, w5.setCell ⟨x, 2, none⟩ (.slice ao5 (n + 1) cap5) = W6 := ⟨_, rfl⟩
        have x6 : W6.heap[x]? = some (.cells #[.int .i64 life, .int .i64 (ref : Int), .slice ao5 (n + 1) cap5] 30 (0, 0)) := by rw [← hW6, setCell_block (unhide X5)]; rfl
        have k6 : ∀ b, b ≠ x → W6.heap[b]? = w5.heap[b]? := fun b hb => by rw [← hW6]; exact Below.heap_setCell w5 ⟨x, 2, none⟩ _ b hb
        have d6 : W6.cell? ⟨x, 2, none⟩ = some (.slice ao5 (n + 1) cap5) := bcell x6 rfl
        have FIN : Hid ((∃ v', Xk base W6 x v' life ref (more ps id)) ∧ Only base [30, 55] w W6) := by
          have hps := pos_end id ps (unhide HNE)
          have grow5 := unhide GR5
          rw [more_new id ps hps.1]
          have pw5 : Pw base w5 (.slice ao5 (n + 1) cap5) (ps ++ [fresh id]) := Pw.push (unhide OWN5) (unhide HN) (unhide HXS)
          have o5 : Only base [30, 55] w w5 := ((Only.of_below (unhide BW) hbase).own (unhide OWN1) grow5 hbW (Nat.le_refl _) (by simp))
          have o6 : Only base [30, 55] w W6 := by rw [← hW6]; exact o5.setCell (p := ⟨x, 2, none⟩) hbx _ (unhide X5) (by simp)
          refine ⟨⟨_, hbx, x6, pw5.kept (fun b cs hb => k6 b (fun e => by subst e; rw [unhide X5] at hb; cases hb)), fun r hr => ?_⟩, o6⟩
          rcases List.mem_append.1 hr with hr | hr
          · exact (unhide HNS r hr).only o6 (by decide)
          · simp only [List.mem_singleton] at hr; subst hr; exact ⟨rfl, Or.inl ⟨rfl, rfl⟩⟩
        have HPOS : Hid ((pos ps id : Int) = (n : Nat)) := by show _ = _; rw [(pos_end id ps (unhide HNE)).1, unhide HN]
        have HW6 := hide hW6
        clear hW6 x6 k6 OWN5 GR5 X5 c5 f5 d2 f1 hi0 hz0 hz1 hz2 OWN1 HXS NW HW1 X1 BW
        go_upto_region 7 with fail
        rw [unhide HW6]
        go_wp2
        go_ret
        refine ⟨?_, unhide FIN⟩
        rw [unhide HPOS]
        first | rfl | (simp; done)
end Go.Proofs.Ytkanolmcaoecgaa

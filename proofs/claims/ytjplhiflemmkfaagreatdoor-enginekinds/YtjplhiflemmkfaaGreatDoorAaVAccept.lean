/- accept: Accept: a contract. -/
import Derived.Test.YtjplhiflemmkfaaGreatDoorAaVPure
namespace Go.Proofs.YtjplhiflemmkfaaGreatDoor.Aa
open Go.RowKit Go.Maps

/-- a vote is put into the map. -/
theorem Vm.store {D : Nat → Prop} {w : World} {q : Nat} {f : Vf} {c : Nat} (h : Vm D w q f c) {x b : Int} {e : En} {mo : Option Addr} {mc : Nat} (hx : wf64 x) (hc : c < 1000000) (hm : Ir 0 w (.slice mo e.ms.length mc) e.ms) (hd : ∀ k, (Value.slice mo e.ms.length mc).ownBlock = some k → D k) (hl : e.ms.length ≤ 1000000) :
    ∃ w', (Instr.mapUpdate 265 (.map (some q)) (.int .i64 x) (.agg #[.int .i64 x, .int .i64 b, .int .i64 e.kind, .int .i64 e.client, .int .i64 e.seq, .string e.text, .slice mo e.ms.length mc, .int .i64 e.dest])).run Tryz.prog w = .ok () w' ∧ Vm D w' q (f.put x b e) (c + 1) ∧ w.grownBy w' (some q) := by
  obtain ⟨M, h1, h3, h4⟩ := h
  obtain ⟨w', r1, r2, r3⟩ := h1.update keyed Tryz.underlying265 (by unfold maxLen; omega) (keyOf_int_mk Tryz.underlying3 hx) (d := .held (.agg #[.int .i64 x, .int .i64 b, .int .i64 e.kind, .int .i64 e.client, .int .i64 e.seq, .string e.text, .slice mo e.ms.length mc, .int .i64 e.dest])) (ps := []) rfl
  have hmap := h1.isMap
  obtain ⟨es, cl, hq, _⟩ := h1
  have keep : ∀ (v : Value) (ys : List Int), Ir 0 w v ys → Ir 0 w' v ys := fun v ys hv => own_kept hv fun k ho => r3.block k (hv.lt k ho).2 (fun x => by
    obtain ⟨_, cur, fr, hc'⟩ := own_tag hv k ho
    cases x
    rw [hq] at hc'; cases hc')
  refine ⟨w', r1, ⟨_, r2, fun y => ?_, fun y b' e' hy => ?_⟩, r3⟩
  · unfold Vf.put
    by_cases hyx : y = x
    · rw [if_pos hyx, hyx]; exact has_put_same hmap (by simp [WideAt.IsKeyLit]) _
    · rw [if_neg hyx, has_put_other (by simpa using hyx)]; exact h3 y
  · unfold Vf.put at hy
    by_cases hyx : y = x
    · rw [if_pos hyx] at hy
      cases hy
      subst hyx
      exact ⟨mo, mc, atKey_put_same hmap (by simp [WideAt.IsKeyLit]) _ _, keep _ _ hm, hd, hl⟩
    · rw [if_neg hyx] at hy
      obtain ⟨mo', mc', k1, k2, k3, k4⟩ := h4 y b' e' hy
      exact ⟨mo', mc', by rw [atKey_put_other (by simpa using hyx)]; exact k1, keep _ _ k2, k3, k4⟩
theorem accept_fin {D : Nat → Prop} {w w3 w4 : World} {p q : Nat} {P0 P : Int} {f0 f g : Vf} {c0 c c' : Nat} (h : Ac D w p q P0 f0 c0) (h3 : Ac D w3 p q P f c) (hv : Vm (News D w w3) w4 q g c') (hg : w3.grownBy w4 (some q)) (hk : Kp (fun k => k = p) w w3) :
    Ac (News D w w4) w4 p q P g c' ∧ Kp (foot p q) w w4 := by
  have s4 : w3.heap.size ≤ w4.heap.size := hg.size
  refine ⟨⟨?_, hv.mono (fun k hk => ?_) (Nat.le_refl _), ⟨Or.inl h3.own.1, Or.inl h3.own.2⟩, fun k hk' => ?_⟩, ?_⟩
  · exact (hg.block p (heap_lt h3.box) (fun e => h3.ne (by cases e; rfl))).trans h3.box
  · rcases hk with x | x
    · exact Or.inl x
    · exact Or.inr ⟨x.1, Nat.lt_of_lt_of_le x.2 s4⟩
  · rcases hk' with x | x
    · exact Nat.lt_of_lt_of_le (h3.lt k x) s4
    · exact x.2
  · refine (hk.mono (E := foot p q) (fun j _ x => Or.inl x)).grown hg (fun k _ e => ?_)
    cases e; exact Or.inr rfl
/-- the two boxes that Accept makes first. -/
theorem accept_front {D : Nat → Prop} {p q : Nat} {P : Int} {f : Vf} {c : Nat} (w : World) (b s : Int) (e : En) (mo : Option Addr) (mc : Nat) (h : Ac D w p q P f c) :
    ∃ W0 W1, w.alloc (.cells #[.int .i64 e.kind, .int .i64 e.client, .int .i64 e.seq, .string e.text, .slice mo e.ms.length mc, .int .i64 e.dest] 43) = W0 ∧ W0.alloc (.cells #[.int .i64 s] 3) = W1 ∧ W0.heap.size = w.heap.size + 1 ∧ W1.heap[w.heap.size]? = some (.cells #[.int .i64 e.kind, .int .i64 e.client, .int .i64 e.seq, .string e.text, .slice mo e.ms.length mc, .int .i64 e.dest] 43 (0, 0)) ∧ Below w.heap.size w W1 ∧
      Calls Tryz.prog 238 #[.pointer (some ⟨p, 0, none⟩), .int .i64 b, .slice (some ⟨W0.heap.size, 0, none⟩) 1 1] W1 fun x w' => ∃ v, x = .returned v ∧ RefOut (noOf P b (decide (s < 1 ∨ 64 < s))) v w' ∧ Below W1.heap.size W1 w' := by
  obtain ⟨W0, hW0⟩ : ∃ W, w.alloc (.cells #[.int .i64 e.kind, .int .i64 e.client, .int .i64 e.seq, .string e.text, .slice mo e.ms.length mc, .int .i64 e.dest] 43) = W := ⟨_, rfl⟩
  obtain ⟨W1, hW1⟩ : ∃ W, W0.alloc (.cells #[.int .i64 s] 3) = W := ⟨_, rfl⟩
  have b0 : Below w.heap.size w W0 := by rw [← hW0]; exact (Below.refl _ w).alloc (Nat.le_refl _) _
  have b1 : Below W0.heap.size W0 W1 := by rw [← hW1]; exact (Below.refl _ W0).alloc (Nat.le_refl _) _
  have x0 : W0.heap[w.heap.size]? = some (.cells #[.int .i64 e.kind, .int .i64 e.client, .int .i64 e.seq, .string e.text, .slice mo e.ms.length mc, .int .i64 e.dest] 43 (0, 0)) := by rw [← hW0]; exact box_at _ _
  have x1 : W1.heap[W0.heap.size]? = some (.cells #[.int .i64 s] 3 (0, 0)) := by rw [← hW1]; exact box_at _ _
  have bb := below_far b0 b1
  refine ⟨W0, W1, hW0, hW1, by rw [← hW0]; simp, Below.stay b1 x0, bb, ?_⟩
  exact refuse_of P b _ p _ W1 ((cell_of_block (Below.stay bb h.box)).trans rfl) (contains_one W0.heap.size s W1 ((cell_of_block x1).trans rfl))
set_option maxRecDepth 20000 in
theorem accept_no {D : Nat → Prop} {p q : Nat} {P : Int} {f : Vf} {c : Nat} (w : World) (b s : Int) (e : En) (mo : Option Addr) (mc : Nat) (h : Ac D w p q P f c) (hn : noOf P b (decide (s < 1 ∨ 64 < s)) ≠ 0) :
    Calls Tryz.prog 287 #[.pointer (some ⟨p, 0, none⟩), .int .i64 b, .int .i64 s, .agg #[.int .i64 e.kind, .int .i64 e.client, .int .i64 e.seq, .string e.text, .slice mo e.ms.length mc, .int .i64 e.dest]] w fun x w' => x = .returned (.int .i64 (noOf P b (decide (s < 1 ∨ 64 < s)))) ∧ Below w.heap.size w w' := by
  obtain ⟨W0, W1, hW0, hW1, s0, x0, bb, hc⟩ := accept_front w b s e mo mc h
  obtain ⟨n, hN⟩ : ∃ n, noOf P b (decide (s < 1 ∨ 64 < s)) = n := ⟨_, rfl⟩
  have HN := hide (numR_no hN hn)
  rw [hN] at hc hn ⊢
  have HZ := hide hn
  have C := hide hc
  have BB := hide bb
  have H0 := hide hW0
  have H1 := hide hW1
  clear h hN hn hc bb hW0 hW1 x0 s0
  go_enter Tryz.func287, Tryz.ntmps287
  go_upto_region 1 with fail
  rw [unhide H0]
  go_wp2_with fail
  rw [unhide H1]
  refine (unhide C).mono ?_
  rintro x w1 ⟨v, rfl, hr, b1⟩
  rcases hr with ⟨h0, -⟩ | ⟨-, rb, rfl, hR⟩
  · exact absurd h0 (unhide HZ)
  · have NC := hide (number_ref n rb w1 hR)
    have B1 := hide (below_far (unhide BB) b1)
    rw [unhide HN] at NC
    unfold refV at NC ⊢
    clear hR b1 C HZ HN
    go_wp2_with (go_at_call 239; refine (unhide NC).mono ?_; rintro e w' ⟨rfl, rfl⟩)
    go_ret
    exact ⟨rfl, unhide B1⟩
set_option maxRecDepth 20000 in
set_option maxHeartbeats 2000000 in
theorem accept_ok {D : Nat → Prop} {p q : Nat} {P : Int} {f : Vf} {c : Nat} (w : World) (b s : Int) (e : En) (mo : Option Addr) (mc : Nat) (h : Ac D w p q P f c) (hb : InF (fun k => k ≠ p) w mo e.ms) (hl : e.ms.length ≤ 1000000) (hcn : c < 1000000) (hn : noOf P b (decide (s < 1 ∨ 64 < s)) = 0) :
    Calls Tryz.prog 287 #[.pointer (some ⟨p, 0, none⟩), .int .i64 b, .int .i64 s, .agg #[.int .i64 e.kind, .int .i64 e.client, .int .i64 e.seq, .string e.text, .slice mo e.ms.length mc, .int .i64 e.dest]] w fun x w' => x = .returned (.int .i64 0) ∧ Ac (News D w w') w' p q b (f.put s b e) (c + 1) ∧ Kp (foot p q) w w' := by
  obtain ⟨W0, W1, hW0, hW1, s0, x0, bb, hc⟩ := accept_front w b s e mo mc h
  have hs : 1 ≤ s ∧ s ≤ 64 := by
    unfold noOf at hn
    split at hn
    · cases hn
    · rename_i hh
      simp at hh; omega
  have hw : wf64 s := wf_range (by omega)
  rw [hn] at hc
  have C := hide hc
  have BB := hide bb
  have H0 := hide hW0
  have H1 := hide hW1
  have X0 := hide x0
  have HI := hide hb
  have A := hide h
  have HC := hide hcn
  have HWF := hide hw
  clear h hn hc bb hW0 hW1 x0 hb hs hcn hw s0
  go_enter Tryz.func287, Tryz.ntmps287
  go_upto_region 1 with fail
  rw [unhide H0]
  go_wp2_with fail
  rw [unhide H1]
  refine (unhide C).mono ?_
  rintro x w1 ⟨v, rfl, hr, b1⟩
  rcases hr with ⟨-, rfl⟩ | ⟨h0, -⟩
  · have bw1 := below_far (unhide BB) b1
    have A1 := (unhide A).below bw1
    have x1 := Below.stay b1 (unhide X0)
    have c0 : w1.cell? ⟨p, 0, none⟩ = some (.int .i64 P) := (cell_of_block A1.box).trans rfl
    have f0 : w1.frozen? ⟨p, 0, none⟩ = false := free_of_block A1.box
    obtain ⟨W, hW⟩ : ∃ W, w1.setCell ⟨p, 0, none⟩ (.int .i64 b) = W := ⟨_, rfl⟩
    have A2 : Ac D W p q b f c := by rw [← hW]; exact A1.promise b
    have k2 : Kp (fun k => k = p) w W := by
      rw [← hW]
      exact Kp.setCell (D := fun k => k = p) (Kp.of_below bw1) (p := ⟨p, 0, none⟩) rfl _
    have hpn : w.heap.size ≠ p := fun x => by have := (unhide A).lt p (unhide A).own.1; omega
    have x2 : W.heap[w.heap.size]? = some (.cells #[.int .i64 e.kind, .int .i64 e.client, .int .i64 e.seq, .string e.text, .slice mo e.ms.length mc, .int .i64 e.dest] 43 (0, 0)) := by rw [← hW]; exact (Below.heap_setCell _ _ _ _ hpn).trans x1
    have hI2 : IntsR W mo e.ms := ((unhide HI).kp k2 (fun k hk => hk)).ints
    have AD := A2.below ((Below.refl _ W).drew)
    have TW := twin_any ⟨s, b, e⟩ mo mc W.drew (hI2.below ((Below.refl _ W).drew)) hl
    simp only [Vt.cells, En.cells] at TW
    have TT := hide TW
    have cM : W.drew.cell? ⟨p, 1, none⟩ = some (.map (some q)) := (cell_of_block AD.box).trans rfl
    have k0 : W.drew.cell? ⟨w.heap.size, 0, none⟩ = some (.int .i64 e.kind) := (cell_of_block (w := W.drew) x2).trans rfl
    have k1 : W.drew.cell? ⟨w.heap.size, 1, none⟩ = some (.int .i64 e.client) := (cell_of_block (w := W.drew) x2).trans rfl
    have k3 : W.drew.cell? ⟨w.heap.size, 2, none⟩ = some (.int .i64 e.seq) := (cell_of_block (w := W.drew) x2).trans rfl
    have k4 : W.drew.cell? ⟨w.heap.size, 3, none⟩ = some (.string e.text) := (cell_of_block (w := W.drew) x2).trans rfl
    have k5 : W.drew.cell? ⟨w.heap.size, 4, none⟩ = some (.slice mo e.ms.length mc) := (cell_of_block (w := W.drew) x2).trans rfl
    have k6 : W.drew.cell? ⟨w.heap.size, 5, none⟩ = some (.int .i64 e.dest) := (cell_of_block (w := W.drew) x2).trans rfl
    have AA := hide AD
    have KK := hide (k2.drew)
    have HW := hide hW
    clear A1 A2 k2 hW b1 bw1 C x1 x2 hI2 TW AD HI H0 H1 X0 BB hpn
    go_upto_region 5 with fail
    rw [unhide HW]
    go_region_with (
      go_at_call 280
      refine (unhide TT).mono ?_
      rintro x w3 ⟨mo3, mc3, rfl, o3, b3⟩
      have A3 := (unhide AA).below b3
      have cM3 : w3.cell? ⟨p, 1, none⟩ = some (.map (some q)) := (cell_of_block A3.box).trans rfl
      have K3 := hide ((unhide KK).far b3)
      have v3 : Vm (News D w w3) w3 q f c := A3.map.mono (fun k hk => Or.inl hk) (Nat.le_refl _)
      obtain ⟨w4, u1, u2, u3⟩ := v3.store (b := b) (unhide HWF) (unhide HC) o3.zero (fun k hk => Or.inr ⟨Nat.le_trans (unhide KK).size (o3.lt k hk).1, (o3.lt k hk).2⟩) hl
      have AA3 := hide A3
      have U2 := hide u2
      have U3 := hide u3
      clear o3 b3 A3 v3 u2 u3)
    all_goals
      have FIN := hide (accept_fin (unhide A) (unhide AA3) (unhide U2) (unhide U3) (unhide K3))
      clear U2 U3 K3 AA3
    all_goals go_wp2
    all_goals go_ret
    all_goals exact ⟨rfl, (unhide FIN).1, (unhide FIN).2⟩
  · exact absurd rfl h0
end Go.Proofs.YtjplhiflemmkfaaGreatDoor.Aa

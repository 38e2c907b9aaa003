/- Rows of generations of which each may follow what stands ahead of it: plain; Load of what Save wrote. seal: Seal: contracts. -/
import Derived.Test.YtgllokinadjiaaaDoorWwRK
import Derived.Test.YtgllokinadjiaaaDoorSFace
namespace Go.Proofs.YtgllokinadjiaaaDoor
open Go.RowKit Go.Maps
open Ww (Own)

def FitG (gs : List Gn) : Prop := ∀ k g, gs[k]? = some g → wrongG (gs.take k) g.n g.eng g.base [] g.ms = 0
theorem FitG.nil : FitG [] := fun k g h => by simp at h
theorem FitG.snoc {gs : List Gn} {g : Gn} (h : FitG gs) (hw : wrongG gs g.n g.eng g.base [] g.ms = 0) : FitG (gs ++ [g]) := fun k x hk => by
  by_cases hl : k < gs.length
  · rw [List.getElem?_append_left hl] at hk
    rw [List.take_append_of_le_length (by omega)]
    exact h k x hk
  · rw [List.getElem?_append_right (by omega)] at hk
    have h0 : k = gs.length := by have := (List.getElem?_eq_some_iff.1 hk).1; simp at this; omega
    subst h0
    simp at hk
    subst hk
    rw [List.take_left]; exact hw
theorem pg_gn_map (gs : List Gn) : (gs.map Gn.pg).map Pg.gn = gs := by
  rw [List.map_map]
  conv => rhs; rw [← List.map_id gs]
  rfl
theorem FitG.pg {gs : List Gn} (h : FitG gs) : Fit (gs.map Gn.pg) := fun k g hk => by
  rw [List.getElem?_map] at hk
  cases hx : gs[k]? with
  | none => rw [hx] at hk; simp at hk
  | some x =>
    rw [hx] at hk
    simp at hk
    subst hk
    rw [← List.map_take, pg_gn_map]
    exact h k x hx
/-- Load of what Save wrote. -/
theorem load_saved {gs : List Gn} (h : ∀ g ∈ gs, g.ok) (hne : gs ≠ []) (hl : gs.length ≤ 60) (hf : FitG gs) (w : World) (base : Nat) (ao : Option Addr) (n cap : Nat) (ho : Own base w (.slice ao n cap) (saveBytes gs)) (hn : (saveBytes gs).length = n) (hS : Ww.Start w) :
    Calls Tryd.prog 10 #[.slice ao n cap] w fun x w' => ∃ p D, x = .returned (.tuple #[.pointer (some ⟨p, 0, none⟩), .int .i64 0]) ∧ Gs D w' p gs ∧ (∀ k, D k → w.heap.size ≤ k) ∧ Below w.heap.size w w' := by
  obtain ⟨ao', cap', e, h1, h2, h3, h4, -⟩ := ho.slice
  rw [hn] at e h1
  simp only [Value.slice.injEq] at e
  obtain ⟨rfl, -, rfl⟩ := e
  have hb : n ≤ 1000000000000 := by
                                    have hlen : ∀ (l : List Gn), (∀ g ∈ l, g.ok) → ((l.map genBytes).flatten).length ≤ 100 * l.length := fun l => by
                                      induction l with
                                      | nil => intro _; simp
                                      | cons g l ih =>
                                        intro hk
                                        have k1 := ih (fun x hx => hk x (by simp [hx]))
                                        have k2 := (hk g (by simp)).few
                                        rw [List.map_cons, List.flatten_cons, List.length_append, genBytes_len, List.length_cons]
                                        omega
                                    have k3 := hlen gs h
                                    have k4 : (saveBytes gs).length = 1 + ((gs.map genBytes).flatten).length := by unfold saveBytes; rw [List.length_append]; rfl
                                    omega
  have := load_ok ao n cap (saveBytes gs) w ⟨hn, h1, h4, hb, h3⟩ hS (gs.map Gn.pg) (parse_saved h) (by simpa using hne) (by rw [List.length_map]; omega) hf.pg
  rw [pg_gn_map] at this
  exact this
end Go.Proofs.YtgllokinadjiaaaDoor
namespace Go.Proofs.YtgllokinadjiaaaDoor
open Go.RowKit Go.Maps
attribute [local go_sem ↓] Go.wp_at_zero Go.wp_at_succ

theorem boxC (w : World) (xo mo : Option Addr) (xn xc m mc : Nat) : ∃ W, w.alloc (.cells #[.slice xo xn xc, .slice mo m mc] 30) = W ∧ Below w.heap.size w W ∧ W.heap[w.heap.size]? = some (.cells #[.slice xo xn xc, .slice mo m mc] 30 (0, 0)) :=
  ⟨_, rfl, (Below.refl _ w).alloc (Nat.le_refl _) _, box_at _ _⟩
/-- what a seal is refused for, OK for nothing. -/
def sealNo (gs : List Gn) (l : Gn) (index eng : Int) (old new : List Int) : Int := wrongG gs (IntKind.i64.wrap (l.n + 1)) eng index old new
set_option maxRecDepth 20000 in
set_option maxHeartbeats 4000000 in
theorem seal_of {D : Nat → Prop} {w : World} {p : Nat} {gs : List Gn} (h : Gs D w p gs) (hl : gs.length ≤ 1000000) {l : Gn} (hg : gs[gs.length - 1]? = some l) (index eng n1 : Int) (hn1 : IntKind.i64.wrap (l.n + 1) = n1) (xo mo : Option Addr) (xn xc m mc : Nat)
    (C : World → Prop) (F : World → Value → World → Prop) (r : Int)
    (CA : ∀ Y, Below w.heap.size w Y → Calls Tryd.prog 19 #[.pointer (some ⟨p, 0, none⟩), .agg #[.int .i64 n1, .int .i64 eng, .int .i64 index, .slice xo xn xc, .slice mo m mc]] Y fun x w' => ∃ v, x = .returned v ∧ F Y v w' ∧ Kp D Y w')
    (CN : ∀ Y v Z, Below w.heap.size w Y → F Y v Z → Kp D Y Z → Calls Tryd.prog 18 #[v] Z fun x w' => x = .returned (.int .i64 r) ∧ Below Z.heap.size Z w')
    (hC : ∀ Y v Z Z', Below w.heap.size w Y → F Y v Z → Kp D Y Z → Below Z.heap.size Z Z' → C Z') :
    Calls Tryd.prog 8 #[.pointer (some ⟨p, 0, none⟩), .int .i64 index, .int .i64 eng, .agg #[.slice xo xn xc, .slice mo m mc]] w fun x w' => x = .returned (.int .i64 r) ∧ C w' := by
  obtain ⟨lo, lc, -, CLA⟩ := last_all h hl hg
  have hlt := h.lt
  obtain ⟨W, hW, bW, xW⟩ := boxC w xo mo xn xc m mc
  have SX : Hid (∀ Y, Below W.heap.size W Y → (Y.cell? ⟨w.heap.size, 0, none⟩ = some (.slice xo xn xc) ∧ Y.cell? ⟨w.heap.size, 1, none⟩ = some (.slice mo m mc))) := hide (fun Y hY =>
    have x := Below.stay hY xW
    ⟨(cell_of_block x).trans rfl, (cell_of_block x).trans rfl⟩)
  have SK : Hid (∀ Y Z, Below W.heap.size W Y → Kp D Y Z → (Z.cell? ⟨w.heap.size, 0, none⟩ = some (.slice xo xn xc) ∧ Z.cell? ⟨w.heap.size, 1, none⟩ = some (.slice mo m mc))) := hide (fun Y Z hY hZ =>
    have x := hZ.block (Below.stay hY xW) (fun hd => Nat.lt_irrefl _ (hlt _ hd))
    ⟨(cell_of_block x).trans rfl, (cell_of_block x).trans rfl⟩)
  obtain ⟨ln, le, lb, lms⟩ := l
  unfold gnV at CLA
  simp only at CLA hn1
  have CL := hide (fun Y (hY : Below W.heap.size W Y) => CLA Y (below_far bW hY))
  have CA' := hide (fun Y (hY : Below W.heap.size W Y) => CA Y (below_far bW hY))
  have CN' := hide (fun Y v Z (hY : Below W.heap.size W Y) => CN Y v Z (below_far bW hY))
  have HC := hide (fun Y v Z Z' (hY : Below W.heap.size W Y) => hC Y v Z Z' (below_far bW hY))
  have FN := field_n
  have EZ := hide (Below.refl W.heap.size W)
  have HW := hide hW
  clear h hg hlt CLA CA CN hC hW bW xW
  go_enter Tryd.func8, Tryd.ntmps8
  go_upto_region 1 with fail
  rw [unhide HW]
  clear HW
  go_region_held3 (fun Y => Y.cell? ⟨w.heap.size, 0, none⟩ = some (.slice xo xn xc) ∧ Y.cell? ⟨w.heap.size, 1, none⟩ = some (.slice mo m mc))
    (first | with_reducible exact unhide SX _ (unhide EZ) | with_reducible exact unhide SX _ (unhide EZ).drew | with_reducible exact unhide SY _ (Below.refl _ _) | with_reducible exact unhide SY _ (unhide BZ) | fail)
    (first
      | (go_at_call 20
         refine (unhide CL _ (by first | exact unhide EZ | exact (unhide EZ).drew | fail)).mono ?_
         rintro e z1 ⟨rfl, b1⟩
         have EN := hide (below_far (by first | exact unhide EZ | exact (unhide EZ).drew | fail) b1)
         clear EZ b1
         have EZ := EN
         clear EN)
      | (go_at_call 19
         refine (unhide CA' _ (by first | exact unhide EZ | exact (unhide EZ).drew | fail)).mono ?_
         rintro e z2 ⟨v2, rfl, f2, k2⟩
         have CN2 := hide (unhide CN' _ _ _ (by first | exact unhide EZ | exact (unhide EZ).drew | fail) f2 k2)
         have HC2 := hide (fun Z' => unhide HC _ _ _ Z' (by first | exact unhide EZ | exact (unhide EZ).drew | fail) f2 k2)
         have SY := hide (fun Y (hY : Below z2.heap.size z2 Y) => (show (Y.cell? ⟨w.heap.size, 0, none⟩ = some (.slice xo xn xc) ∧ Y.cell? ⟨w.heap.size, 1, none⟩ = some (.slice mo m mc)) from
           have s := unhide SK _ _ (by first | exact unhide EZ | exact (unhide EZ).drew | fail) k2
           ⟨(hY.cell (blk_lt s.1)).trans s.1, (hY.cell (blk_lt s.2)).trans s.2⟩))
         clear f2 k2)
      | (go_at_call 18
         refine (unhide CN2).mono ?_
         rintro e z3 ⟨rfl, b3⟩
         have BZ := hide b3
         clear b3)
      | fail)
  go_wp2
  go_ret
  exact ⟨rfl, unhide HC2 _ (unhide BZ)⟩
theorem seal_no {D : Nat → Prop} {w : World} {p : Nat} {gs : List Gn} (h : Gs D w p gs) (hl : gs.length ≤ 1000000) {l : Gn} (hg : gs[gs.length - 1]? = some l) (index eng : Int) (xo mo : Option Addr) (xn xc m mc : Nat) (old new : List Int) (hno : old.length = xn) (hnn : new.length = m) (hlo : xn ≤ 1000000000) (hln : m ≤ 1000000000) (ho : IntsR w xo old) (hw : IntsR w mo new) (hn0 : sealNo gs l index eng old new ≠ 0) :
    Calls Tryd.prog 8 #[.pointer (some ⟨p, 0, none⟩), .int .i64 index, .int .i64 eng, .agg #[.slice xo xn xc, .slice mo m mc]] w fun x w' => x = .returned (.int .i64 (sealNo gs l index eng old new)) ∧ Below w.heap.size w w' := by
  have hv := wrongG_vals gs (IntKind.i64.wrap (l.n + 1)) eng index old new
  refine seal_of h hl hg index eng _ rfl xo mo xn xc m mc (fun w' => Below w.heap.size w w') (fun Y v Z => ∃ q, v = refV q ∧ Ref Z q (sealNo gs l index eng old new) ∧ Below Y.heap.size Y Z) _ ?_ ?_ ?_
  · intro Y hY
    refine (add_no (h.below hY) hl (IntKind.i64.wrap (l.n + 1)) eng index xo mo xn xc m mc old new hno hnn hlo hln (ho.below hY) (hw.below hY) hn0).mono ?_
    rintro x w' ⟨q, rfl, hq, hb⟩
    exact ⟨_, rfl, ⟨q, rfl, hq, hb⟩, Kp.of_below hb⟩
  · rintro Y v Z hY ⟨q, rfl, hq, hb⟩ _
    have := number_says (refV q) _ Z (Says.ref hq)
    rwa [face_num (c := sealNo gs l index eng old new) (by unfold sealNo at hn0 ⊢; omega)] at this
  · rintro Y v Z Z' hY ⟨q, rfl, hq, hb⟩ _ hz
    exact below_far hY (below_far hb hz)
theorem seal_ok {D : Nat → Prop} {w : World} {p : Nat} {gs : List Gn} (h : Gs D w p gs) (hl : gs.length ≤ 1000000) {l : Gn} (hg : gs[gs.length - 1]? = some l) (index eng : Int) (xo mo : Option Addr) (xn xc m mc : Nat) (old new : List Int) (hno : old.length = xn) (hnn : new.length = m) (hlo : xn ≤ 1000000000) (hln : m ≤ 1000000) (ho : IntsR w xo old) (hw : IntsR w mo new) (hn0 : sealNo gs l index eng old new = 0) :
    Calls Tryd.prog 8 #[.pointer (some ⟨p, 0, none⟩), .int .i64 index, .int .i64 eng, .agg #[.slice xo xn xc, .slice mo m mc]] w fun x w' => x = .returned (.int .i64 0) ∧ Gs (News D w w') w' p (gs ++ [⟨IntKind.i64.wrap (l.n + 1), eng, index, new⟩]) ∧ Kp D w w' := by
  refine seal_of h hl hg index eng _ rfl xo mo xn xc m mc (fun w' => Gs (News D w w') w' p (gs ++ [⟨IntKind.i64.wrap (l.n + 1), eng, index, new⟩]) ∧ Kp D w w') (fun Y v Z => v = .nilIface ∧ Gs (News D Y Z) Z p (gs ++ [⟨IntKind.i64.wrap (l.n + 1), eng, index, new⟩])) _ ?_ ?_ ?_
  · intro Y hY
    refine (add_ok (h.below hY) hl ⟨IntKind.i64.wrap (l.n + 1), eng, index, new⟩ xo mo xn xc m mc old hno hnn hlo hln (ho.below hY) (hw.below hY) hn0).mono ?_
    rintro x w' ⟨rfl, hgs, hk⟩
    exact ⟨_, rfl, ⟨rfl, hgs⟩, hk⟩
  · rintro Y v Z hY ⟨rfl, _⟩ _
    exact number_says .nilIface _ Z (Says.nil Z)
  · rintro Y v Z Z' hY ⟨rfl, hgs⟩ hk hz
    have hs1 := hY.size
    have hs2 := hk.size
    have hs3 := hz.size
    have g2 := hgs.below hz
    refine ⟨⟨?_, ?_, ?_⟩, ?_⟩
    · obtain ⟨rv, h1, h2⟩ := g2.box
      refine ⟨rv, h1, h2.mono (fun k hk => ?_)⟩
      rcases hk with hk | hk
      · exact Or.inl hk
      · exact Or.inr ⟨by omega, by omega⟩
    · exact Or.inl h.own
    · intro k hk
      rcases hk with hk | hk
      · have := h.lt k hk; omega
      · omega
    · exact ((Kp.of_below hY).trans hk (fun _ _ x => x)).far hz
end Go.Proofs.YtgllokinadjiaaaDoor

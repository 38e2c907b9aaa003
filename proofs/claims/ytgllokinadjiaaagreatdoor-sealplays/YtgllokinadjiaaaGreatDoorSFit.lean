/- Rows of generations of which each may follow what stands ahead of it: plain; Load of what Save wrote. seal: Seal: contracts. slices.Backward over generations: what it hands back, at whatever loop body. seal.At: a contract. -/
import Derived.Test.YtgllokinadjiaaaGreatDoorWwRK
import Derived.Test.YtgllokinadjiaaaGreatDoorSFace
import Derived.RangeFuncNested
import Derived.RangeFuncBound
import Derived.RangeFuncCalls
import Derived.RangeFuncLeaves
import Derived.Shelf.Abstract
import Derived.Shelf.RegionOpen
import Derived.WalkKit
import Derived.OwnWalkIn
import Derived.TacticsInMore
import Derived.LoopNIn
import Derived.LoopIn
import Derived.Test.YtgllokinadjiaaaGreatDoorSAdd2
namespace Go.Proofs.YtgllokinadjiaaaGreatDoor
open Go.RowKit Go.Maps
open Ww (Own)

def FitG (gs : List Gn) : Prop := ∀ k g, gs[k]? = some g → wrongG (gs.take k) g.n g.eng g.base [] g.ms = 0
theorem FitG.nil : FitG [] := fun k g h => by simp at h
theorem FitG.snoc {gs : List Gn} {g : Gn} (h : FitG gs) (hw : wrongG gs g.n g.eng g.base [] g.ms = 0) : FitG (gs ++ [g]) := fun k x hk => by
  by_cases hl : k < gs.length
  · rw [List.getElem?_append_left hl] at hk
    rw [List.take_append_of_le_length (by omega)]
    exact h k x hk
  · rw [List.getElem?_append_right (by omega)] at hk
    have h0 : k = gs.length := by have := (List.getElem?_eq_some_iff.1 hk).1; simp at this; omega
    subst h0
    simp at hk
    subst hk
    rw [List.take_left]; exact hw
theorem pg_gn_map (gs : List Gn) : (gs.map Gn.pg).map Pg.gn = gs := by
  rw [List.map_map]
  conv => rhs; rw [← List.map_id gs]
  rfl
theorem FitG.pg {gs : List Gn} (h : FitG gs) : Fit (gs.map Gn.pg) := fun k g hk => by
  rw [List.getElem?_map] at hk
  cases hx : gs[k]? with
  | none => rw [hx] at hk; simp at hk
  | some x =>
    rw [hx] at hk
    simp at hk
    subst hk
    rw [← List.map_take, pg_gn_map]
    exact h k x hx
/-- Load of what Save wrote. -/
theorem load_saved {gs : List Gn} (h : ∀ g ∈ gs, g.ok) (hne : gs ≠ []) (hl : gs.length ≤ 60) (hf : FitG gs) (w : World) (base : Nat) (ao : Option Addr) (n cap : Nat) (ho : Ww.Own base w (.slice ao n cap) (saveBytes gs)) (hn : (saveBytes gs).length = n) (hS : Ww.Start w) :
    Calls Tryz.prog 24 #[.slice ao n cap] w fun x w' => ∃ p D, x = .returned (.tuple #[.pointer (some ⟨p, 0, none⟩), .int .i64 0]) ∧ Gs D w' p gs ∧ (∀ k, D k → w.heap.size ≤ k) ∧ Below w.heap.size w w' := by
  obtain ⟨ao', cap', e, h1, h2, h3, h4, -⟩ := ho.slice
  rw [hn] at e h1
  simp only [Value.slice.injEq] at e
  obtain ⟨rfl, -, rfl⟩ := e
  have hb : n ≤ 1000000000000 := by
                                    have hlen : ∀ (l : List Gn), (∀ g ∈ l, g.ok) → ((l.map genBytes).flatten).length ≤ 100 * l.length := fun l => by
                                      induction l with
                                      | nil => intro _; simp
                                      | cons g l ih =>
                                        intro hk
                                        have k1 := ih (fun x hx => hk x (by simp [hx]))
                                        have k2 := (hk g (by simp)).few
                                        rw [List.map_cons, List.flatten_cons, List.length_append, genBytes_len, List.length_cons]
                                        omega
                                    have k3 := hlen gs h
                                    have k4 : (saveBytes gs).length = 1 + ((gs.map genBytes).flatten).length := by unfold saveBytes; rw [List.length_append]; rfl
                                    omega
  have := load_ok ao n cap (saveBytes gs) w ⟨hn, h1, h4, hb, h3⟩ hS (gs.map Gn.pg) (parse_saved h) (by simpa using hne) (by rw [List.length_map]; omega) hf.pg
  rw [pg_gn_map] at this
  exact this
end Go.Proofs.YtgllokinadjiaaaGreatDoor
namespace Go.Proofs.YtgllokinadjiaaaGreatDoor
open Go.RowKit Go.Maps
attribute [local go_sem ↓] Go.wp_at_zero Go.wp_at_succ

theorem boxC (w : World) (xo mo : Option Addr) (xn xc m mc : Nat) : ∃ W, w.alloc (.cells #[.slice xo xn xc, .slice mo m mc] 24) = W ∧ Below w.heap.size w W ∧ W.heap[w.heap.size]? = some (.cells #[.slice xo xn xc, .slice mo m mc] 24 (0, 0)) :=
  ⟨_, rfl, (Below.refl _ w).alloc (Nat.le_refl _) _, box_at _ _⟩
/-- what a seal is refused for, OK for nothing. -/
def sealNo (gs : List Gn) (l : Gn) (index eng : Int) (old new : List Int) : Int := wrongG gs (IntKind.i64.wrap (l.n + 1)) eng index old new
set_option maxRecDepth 20000 in
set_option maxHeartbeats 4000000 in
theorem seal_of {D : Nat → Prop} {w : World} {p : Nat} {gs : List Gn} (h : Gs D w p gs) (hl : gs.length ≤ 1000000) {l : Gn} (hg : gs[gs.length - 1]? = some l) (index eng n1 : Int) (hn1 : IntKind.i64.wrap (l.n + 1) = n1) (xo mo : Option Addr) (xn xc m mc : Nat)
    (C : World → Prop) (F : World → Value → World → Prop) (r : Int)
    (CA : ∀ Y, Below w.heap.size w Y → Calls Tryz.prog 33 #[.pointer (some ⟨p, 0, none⟩), .agg #[.int .i64 n1, .int .i64 eng, .int .i64 index, .slice xo xn xc, .slice mo m mc]] Y fun x w' => ∃ v, x = .returned v ∧ F Y v w' ∧ Kp D Y w')
    (CN : ∀ Y v Z, Below w.heap.size w Y → F Y v Z → Kp D Y Z → Calls Tryz.prog 32 #[v] Z fun x w' => x = .returned (.int .i64 r) ∧ Below Z.heap.size Z w')
    (hC : ∀ Y v Z Z', Below w.heap.size w Y → F Y v Z → Kp D Y Z → Below Z.heap.size Z Z' → C Z') :
    Calls Tryz.prog 12 #[.pointer (some ⟨p, 0, none⟩), .int .i64 index, .int .i64 eng, .agg #[.slice xo xn xc, .slice mo m mc]] w fun x w' => x = .returned (.int .i64 r) ∧ C w' := by
  obtain ⟨lo, lc, -, CLA⟩ := last_all h hl hg
  have hlt := h.lt
  obtain ⟨W, hW, bW, xW⟩ := boxC w xo mo xn xc m mc
  have SX : Hid (∀ Y, Below W.heap.size W Y → (Y.cell? ⟨w.heap.size, 0, none⟩ = some (.slice xo xn xc) ∧ Y.cell? ⟨w.heap.size, 1, none⟩ = some (.slice mo m mc))) := hide (fun Y hY =>
    have x := Below.stay hY xW
    ⟨(cell_of_block x).trans rfl, (cell_of_block x).trans rfl⟩)
  have SK : Hid (∀ Y Z, Below W.heap.size W Y → Kp D Y Z → (Z.cell? ⟨w.heap.size, 0, none⟩ = some (.slice xo xn xc) ∧ Z.cell? ⟨w.heap.size, 1, none⟩ = some (.slice mo m mc))) := hide (fun Y Z hY hZ =>
    have x := hZ.block (Below.stay hY xW) (fun hd => Nat.lt_irrefl _ (hlt _ hd))
    ⟨(cell_of_block x).trans rfl, (cell_of_block x).trans rfl⟩)
  obtain ⟨ln, le, lb, lms⟩ := l
  unfold gnV at CLA
  simp only at CLA hn1
  have CL := hide (fun Y (hY : Below W.heap.size W Y) => CLA Y (below_far bW hY))
  have CA' := hide (fun Y (hY : Below W.heap.size W Y) => CA Y (below_far bW hY))
  have CN' := hide (fun Y v Z (hY : Below W.heap.size W Y) => CN Y v Z (below_far bW hY))
  have HC := hide (fun Y v Z Z' (hY : Below W.heap.size W Y) => hC Y v Z Z' (below_far bW hY))
  have FN := field_n
  have EZ := hide (Below.refl W.heap.size W)
  have HW := hide hW
  clear h hg hlt CLA CA CN hC hW bW xW
  go_enter Tryz.func12, Tryz.ntmps12
  go_upto_region 1 with fail
  rw [unhide HW]
  clear HW
  go_region_held3 (fun Y => Y.cell? ⟨w.heap.size, 0, none⟩ = some (.slice xo xn xc) ∧ Y.cell? ⟨w.heap.size, 1, none⟩ = some (.slice mo m mc))
    (first | with_reducible exact unhide SX _ (unhide EZ) | with_reducible exact unhide SX _ (unhide EZ).drew | with_reducible exact unhide SY _ (Below.refl _ _) | with_reducible exact unhide SY _ (unhide BZ) | fail)
    (first
      | (go_at_call 34
         refine (unhide CL _ (by first | exact unhide EZ | exact (unhide EZ).drew | fail)).mono ?_
         rintro e z1 ⟨rfl, b1⟩
         have EN := hide (below_far (by first | exact unhide EZ | exact (unhide EZ).drew | fail) b1)
         clear EZ b1
         have EZ := EN
         clear EN)
      | (go_at_call 33
         refine (unhide CA' _ (by first | exact unhide EZ | exact (unhide EZ).drew | fail)).mono ?_
         rintro e z2 ⟨v2, rfl, f2, k2⟩
         have CN2 := hide (unhide CN' _ _ _ (by first | exact unhide EZ | exact (unhide EZ).drew | fail) f2 k2)
         have HC2 := hide (fun Z' => unhide HC _ _ _ Z' (by first | exact unhide EZ | exact (unhide EZ).drew | fail) f2 k2)
         have SY := hide (fun Y (hY : Below z2.heap.size z2 Y) => (show (Y.cell? ⟨w.heap.size, 0, none⟩ = some (.slice xo xn xc) ∧ Y.cell? ⟨w.heap.size, 1, none⟩ = some (.slice mo m mc)) from
           have s := unhide SK _ _ (by first | exact unhide EZ | exact (unhide EZ).drew | fail) k2
           ⟨(hY.cell (blk_lt s.1)).trans s.1, (hY.cell (blk_lt s.2)).trans s.2⟩))
         clear f2 k2)
      | (go_at_call 32
         refine (unhide CN2).mono ?_
         rintro e z3 ⟨rfl, b3⟩
         have BZ := hide b3
         clear b3)
      | fail)
  go_wp2
  go_ret
  exact ⟨rfl, unhide HC2 _ (unhide BZ)⟩
theorem seal_no {D : Nat → Prop} {w : World} {p : Nat} {gs : List Gn} (h : Gs D w p gs) (hl : gs.length ≤ 1000000) {l : Gn} (hg : gs[gs.length - 1]? = some l) (index eng : Int) (xo mo : Option Addr) (xn xc m mc : Nat) (old new : List Int) (hno : old.length = xn) (hnn : new.length = m) (hlo : xn ≤ 1000000000) (hln : m ≤ 1000000000) (ho : IntsR w xo old) (hw : IntsR w mo new) (hn0 : sealNo gs l index eng old new ≠ 0) :
    Calls Tryz.prog 12 #[.pointer (some ⟨p, 0, none⟩), .int .i64 index, .int .i64 eng, .agg #[.slice xo xn xc, .slice mo m mc]] w fun x w' => x = .returned (.int .i64 (sealNo gs l index eng old new)) ∧ Below w.heap.size w w' := by
  have hv := wrongG_vals gs (IntKind.i64.wrap (l.n + 1)) eng index old new
  refine seal_of h hl hg index eng _ rfl xo mo xn xc m mc (fun w' => Below w.heap.size w w') (fun Y v Z => ∃ q, v = refV q ∧ Ref Z q (sealNo gs l index eng old new) ∧ Below Y.heap.size Y Z) _ ?_ ?_ ?_
  · intro Y hY
    refine (add_no (h.below hY) hl (IntKind.i64.wrap (l.n + 1)) eng index xo mo xn xc m mc old new hno hnn hlo hln (ho.below hY) (hw.below hY) hn0).mono ?_
    rintro x w' ⟨q, rfl, hq, hb⟩
    exact ⟨_, rfl, ⟨q, rfl, hq, hb⟩, Kp.of_below hb⟩
  · rintro Y v Z hY ⟨q, rfl, hq, hb⟩ _
    have := number_says (refV q) _ Z (Says.ref hq)
    rwa [face_num (c := sealNo gs l index eng old new) (by unfold sealNo at hn0 ⊢; omega)] at this
  · rintro Y v Z Z' hY ⟨q, rfl, hq, hb⟩ _ hz
    exact below_far hY (below_far hb hz)
theorem seal_ok {D : Nat → Prop} {w : World} {p : Nat} {gs : List Gn} (h : Gs D w p gs) (hl : gs.length ≤ 1000000) {l : Gn} (hg : gs[gs.length - 1]? = some l) (index eng : Int) (xo mo : Option Addr) (xn xc m mc : Nat) (old new : List Int) (hno : old.length = xn) (hnn : new.length = m) (hlo : xn ≤ 1000000000) (hln : m ≤ 1000000) (ho : IntsR w xo old) (hw : IntsR w mo new) (hn0 : sealNo gs l index eng old new = 0) :
    Calls Tryz.prog 12 #[.pointer (some ⟨p, 0, none⟩), .int .i64 index, .int .i64 eng, .agg #[.slice xo xn xc, .slice mo m mc]] w fun x w' => x = .returned (.int .i64 0) ∧ Gs (News D w w') w' p (gs ++ [⟨IntKind.i64.wrap (l.n + 1), eng, index, new⟩]) ∧ Kp D w w' := by
  refine seal_of h hl hg index eng _ rfl xo mo xn xc m mc (fun w' => Gs (News D w w') w' p (gs ++ [⟨IntKind.i64.wrap (l.n + 1), eng, index, new⟩]) ∧ Kp D w w') (fun Y v Z => v = .nilIface ∧ Gs (News D Y Z) Z p (gs ++ [⟨IntKind.i64.wrap (l.n + 1), eng, index, new⟩])) _ ?_ ?_ ?_
  · intro Y hY
    refine (add_ok (h.below hY) hl ⟨IntKind.i64.wrap (l.n + 1), eng, index, new⟩ xo mo xn xc m mc old hno hnn hlo hln (ho.below hY) (hw.below hY) hn0).mono ?_
    rintro x w' ⟨rfl, hgs, hk⟩
    exact ⟨_, rfl, ⟨rfl, hgs⟩, hk⟩
  · rintro Y v Z hY ⟨rfl, _⟩ _
    exact number_says .nilIface _ Z (Says.nil Z)
  · rintro Y v Z Z' hY ⟨rfl, hgs⟩ hk hz
    have hs1 := hY.size
    have hs2 := hk.size
    have hs3 := hz.size
    have g2 := hgs.below hz
    refine ⟨⟨?_, ?_, ?_⟩, ?_⟩
    · obtain ⟨rv, h1, h2⟩ := g2.box
      refine ⟨rv, h1, h2.mono (fun k hk => ?_)⟩
      rcases hk with hk | hk
      · exact Or.inl hk
      · exact Or.inr ⟨by omega, by omega⟩
    · exact Or.inl h.own
    · intro k hk
      rcases hk with hk | hk
      · have := h.lt k hk; omega
      · omega
    · exact ((Kp.of_below hY).trans hk (fun _ _ x => x)).far hz
end Go.Proofs.YtgllokinadjiaaaGreatDoor
namespace Go.Proofs.YtgllokinadjiaaaGreatDoor
open Go.RowKit Go.Shelf
attribute [local go_sem] Oper.semAt_some

/-- the first rounds: from the last place on. -/
def downs (n j : Nat) : List (Fin n) := (List.finRange n).reverse.take j
theorem downs_zero (n : Nat) : downs n 0 = [] := by simp [downs]
theorem downs_len {n j : Nat} (h : j ≤ n) : (downs n j).length = j := by simp [downs, h]
theorem downs_succ {n m : Nat} (hm : m < n) : downs n (n - m) = downs n (n - (m + 1)) ++ [⟨m, hm⟩] := by
  unfold downs
  have hl : n - (m + 1) < (List.finRange n).reverse.length := by simp; omega
  rw [show n - m = n - (m + 1) + 1 by omega, List.take_succ_eq_append_getElem hl]
  congr 1
  rw [List.getElem_reverse]
  simp only [List.getElem_finRange, List.length_finRange, List.cons.injEq, and_true]
  apply Fin.ext
  simp
  omega
def genEnc {n : Nat} (G : Fin n → Value) (x : Fin n) : Array Value := #[.int .i64 ((x.1 : Nat) : Int), G x]

set_option maxRecDepth 100000 in
set_option maxHeartbeats 2000000 in
theorem backward1_in (n l Bs n₀ b cap N : Nat) (hN : N ≤ 1000000) (hn : 1 ≤ n) (gs : Fin N → Int × Int × Int × Value) (hb : b < n₀) (J Jx : List (Fin N) → World → Prop)
    (hY : ∀ pre x W, J pre W → pre.length < N → YieldAt Fence.wide (n - 1) Tryz.prog l (genEnc (fun x => .agg #[.int .i64 (gs x).1, .int .i64 (gs x).2.1, .int .i64 (gs x).2.2.1, .slice none 0 0, (gs x).2.2.2]) x) W fun e W' =>
      (e = .returned (.bool true) ∧ J (pre ++ [x]) W' ∧ Below n₀ W W') ∨ (e = .returned (.bool false) ∧ Jx (pre ++ [x]) W'))
    (W : World) (_hBl : Bs < W.heap.size) (hBs : W.cell? ⟨Bs, 0, none⟩ = some (.slice (some ⟨b, 0, none⟩) N cap)) (hBn : Bs < n₀)
    (hc : ∀ x : Fin N, W.cell? ⟨b, x.1 * 5, none⟩ = some (.int .i64 (gs x).1) ∧ W.cell? ⟨b, x.1 * 5 + 1, none⟩ = some (.int .i64 (gs x).2.1) ∧ W.cell? ⟨b, x.1 * 5 + 2, none⟩ = some (.int .i64 (gs x).2.2.1) ∧ W.cell? ⟨b, x.1 * 5 + 3, none⟩ = some (.slice none 0 0) ∧ W.cell? ⟨b, x.1 * 5 + 4, none⟩ = some (gs x).2.2.2) (h0 : J [] W) :
    CallsIn Fence.wide n Tryz.prog 51 #[.func (.yield l) #[] #[], .pointer (some ⟨Bs, 0, none⟩)] W fun e W' => (∃ v, e = .returned v) ∧
      ((∃ ys, ys = downs N N ∧ J ys W') ∨ (∃ pre, (∃ j, j ≤ N ∧ pre = downs N j) ∧ Jx pre W')) := by
  have hw1 : IntKind.i64.wrap ((N : Int) - 1) = (N : Int) - 1 := IntWalk.i64_in _ (by omega)
  refine callsIn_of_wp Tryz.func51 rfl trivial ?_ rfl
  simp only [Tryz.ntmps51, List.size_toArray, List.length_cons, List.length_nil, Nat.reduceAdd, Nat.reduceSub, Array.replicate_succ, Array.replicate_zero, List.push_toArray, List.append_toArray, List.nil_append, List.cons_append]
  gi_wp2
  gi_loopw [3] (fun i wr => ∃ (k : Nat) (z : Int), k ≤ N ∧ i = .int .i64 z ∧ z = (k : Int) - 1 ∧ J (downs N (N - k)) wr ∧ Below n₀ W wr)
    (fun i _ => (intOf i + 1).toNat)
  case atStart => exact ⟨N, _, Nat.le_refl _, rfl, rfl, by rw [Nat.sub_self, downs_zero]; exact h0, Below.refl _ _⟩
  case round =>
    obtain ⟨k, z, hk, rfl, hz, hJs, hnx⟩ := hrel
    have hbs := (hnx.cell (p := ⟨Bs, 0, none⟩) hBn).trans hBs
    cases k with
    | zero =>
      have hq : z < 0 := by omega
      clear hz
      gi_wp2
      go_end0
      exact ⟨⟨_, rfl⟩, .inl ⟨_, rfl, by simpa using hJs⟩⟩
    | succ m =>
      obtain rfl : z = (m : Int) := by omega
      have hm : m < N := by omega
      obtain ⟨d0, d1, d2, d3, d4⟩ := hc ⟨m, hm⟩
      have e0 := (hnx.cell (p := ⟨b, m * 5, none⟩) hb).trans d0
      have e1 := (hnx.cell (p := ⟨b, m * 5 + 1, none⟩) hb).trans d1
      have e2 := (hnx.cell (p := ⟨b, m * 5 + 2, none⟩) hb).trans d2
      have e3 := (hnx.cell (p := ⟨b, m * 5 + 3, none⟩) hb).trans d3
      have e4 := (hnx.cell (p := ⟨b, m * 5 + 4, none⟩) hb).trans d4
      obtain ⟨fn, tmps, assign, body, hy, hR⟩ := hY _ ⟨m, hm⟩ wr hJs (by rw [downs_len (by omega)]; omega)
      have hw2 : IntKind.i64.wrap ((m : Int) - 1) = (m : Int) - 1 := IntWalk.i64_in _ (by omega)
      have q1 : (m : Int) < (N : Int) := by omega
      unfold genEnc at hy
      dsimp only at hy
      obtain ⟨⟨y0, y1, y2, y3⟩, hyy⟩ : ∃ y, gs ⟨m, hm⟩ = y := ⟨_, rfl⟩
      rw [hyy] at e0 e1 e2 e4 hy
      dsimp only at e0 e1 e2 e4 hy
      have HC := hide hc
      have HZ := hide hz
      clear hc d0 d1 d2 d3 d4 hyy hz
      gi_wp2
      refine hR.mono ?_
      rintro e W3 (⟨rfl, hJ3, hk3⟩ | ⟨rfl, hJx3⟩)
      · gi_wp2
        go_roundw
        case rel => exact ⟨m, _, by omega, rfl, rfl, by rw [downs_succ hm]; exact hJ3, hnx.trans hk3⟩
        case measure => simp [intOf]
      · gi_wp2
        refine bodyPost_ret (results_none rfl _ _ _) rfl ?_
        exact ⟨⟨_, rfl⟩, .inr ⟨_, ⟨N - m, by omega, (downs_succ hm).symm⟩, hJx3⟩⟩
end Go.Proofs.YtgllokinadjiaaaGreatDoor
namespace Go.Proofs.YtgllokinadjiaaaGreatDoor
open Go.RowKit Go.Shelf
attribute [local go_sem] Oper.semAt_some

theorem backward_in (n : Nat) (a : Option Addr) (len cap : Nat) (w : World) :
    CallsIn Fence.wide n Tryz.prog 37 #[.slice a len cap] w fun e w' => e = .returned (.func (.func 51) #[] #[.pointer (some ⟨w.heap.size, 0, none⟩)]) ∧ w' = w.alloc (.cells #[.slice a len cap] 46) := by
  refine callsIn_of_wp Tryz.func37 rfl trivial ?_ rfl
  simp only [Tryz.ntmps37, List.size_toArray, List.length_cons, List.length_nil, Nat.reduceAdd, Nat.reduceSub, Array.replicate_succ, Array.replicate_zero, List.push_toArray, List.append_toArray, List.nil_append, List.cons_append]
  gi_wp2
  go_ret
  exact ⟨rfl, rfl⟩
def zeroGn : Gn := ⟨0, 0, 0, []⟩
/-- the last one whose base is below an index. -/
def atOf (gs : List Gn) (index : Int) : Gn := (gs.reverse.find? fun g => decide (g.base < index)).getD zeroGn
theorem keep5 (W : World) (B : Nat) (v0 v1 v2 v3 v4 : Value) : KeepsOthers W (((((W.setCell ⟨B, 0, none⟩ v0).setCell ⟨B, 1, none⟩ v1).setCell ⟨B, 2, none⟩ v2).setCell ⟨B, 3, none⟩ v3).setCell ⟨B, 4, none⟩ v4) :=
  ((((KeepsOthers.setCell _ _ _).trans (KeepsOthers.setCell _ _ _)).trans (KeepsOthers.setCell _ _ _)).trans (KeepsOthers.setCell _ _ _)).trans (KeepsOthers.setCell _ _ _)
theorem heap_own {W W' : World} {row : Option Nat} {B : Nat} {cs : Array Value} {t : TypeId} {fr : Nat × Nat} (h : W.heap[B]? = some (.cells cs t fr)) (hg : W.grownBy W' row) (hr : ∀ r, row = some r → ∃ o : Obj, W.heap[r]? = some o ∧ o.isCells = false) : W'.heap[B]? = some (.cells cs t fr) :=
  (hg.block B (heap_lt h) (fun e => by obtain ⟨o, h1, h2⟩ := hr B e.symm; rw [h] at h1; cases h1; cases h2)).trans h
theorem ir_own {base : Nat} {W W' : World} {row : Option Nat} {v : Value} {ys : List Int} (h : Ir base W v ys) (hg : W.grownBy W' row) (hr : ∀ r, row = some r → ∃ o : Obj, W.heap[r]? = some o ∧ o.isCells = false) : Ir base W' v ys :=
  own_kept h fun k hk => by
    obtain ⟨_, cur, fr, hc⟩ := own_tag h k hk
    rw [heap_own hc hg hr, hc]
theorem below_from {W W' : World} (h : Below W.heap.size W W') (B : Nat) : KeepsFrom B W W' := ⟨h.size, fun _ _ _ hk _ => Below.stay h hk⟩
theorem find_append {α : Type} (f : α → Bool) (a b : List α) (x : α) (ha : ∀ y ∈ a, f y = false) (hx : f x = true) : (a ++ x :: b).find? f = some x := by
  induction a with
  | nil => simp [hx]
  | cons y ys ih =>
    rw [List.cons_append, List.find?_cons, ha y (by simp)]
    exact ih (fun z hz => ha z (by simp [hz]))
/-- what the loop keeps; what is known when it has been left. -/
def AtI {N : Nat} (G : Fin N → Gn) (index : Int) (W1 : World) (pre : List (Fin N)) (W : World) : Prop := (∀ y ∈ pre, index ≤ (G y).base) ∧ Below W1.heap.size W1 W
def AtX {N : Nat} (G : Fin N → Gn) (index : Int) (w : World) (c : Code) (pre : List (Fin N)) (W : World) : Prop :=
  (c = .ret ∧ ∃ ini x k, pre = ini ++ [x] ∧ (∀ y ∈ ini, index ≤ (G y).base) ∧ (G x).base < index ∧ W.heap[w.heap.size + 1]? = some (.cells #[.int .i64 (G x).n, .int .i64 (G x).eng, .int .i64 (G x).base, .slice none 0 0, .slice (some ⟨k, 0, none⟩) (G x).ms.length (G x).ms.length] 26 (0, 0)) ∧ Ir w.heap.size W (.slice (some ⟨k, 0, none⟩) (G x).ms.length (G x).ms.length) (G x).ms) ∧ Below w.heap.size w W
theorem atI_own {N : Nat} (G : Fin N → Gn) (index : Int) (W1 : World) : OwnFrom W1.heap.size (AtI G index W1) :=
  OwnFrom.and (ownFrom_pure _ _) (ownFrom_below (Nat.le_refl _) (Nat.le_refl _))
theorem atX_own {N : Nat} (G : Fin N → Gn) (index : Int) (w : World) (c : Code) {B : Nat} (hB : w.heap.size ≤ B) : OwnFrom B (AtX G index w c) :=
  OwnFrom.and (fun s A B row hs hg hr => by
    obtain ⟨e, ini, x, k, h1, h2, h3, h4, h5⟩ := hs
    exact ⟨e, ini, x, k, h1, h2, h3, heap_own h4 hg (fun r e => (hr r e).2), ir_own h5 hg (fun r e => (hr r e).2)⟩) (ownFrom_below (Nat.le_refl _) hB)
set_option maxRecDepth 100000 in
set_option maxHeartbeats 4000000 in
theorem at_any {D : Nat → Prop} {w : World} {p : Nat} {gs : List Gn} (h : Gs D w p gs) (hne : gs ≠ []) (hl : gs.length ≤ 1000000) (index : Int) :
    Calls Tryz.prog 18 #[.pointer (some ⟨p, 0, none⟩), .int .i64 index] w fun e w' => ∃ mo mc, e = .returned (gnV (atOf gs index) mo mc) ∧ Ir w.heap.size w' (.slice mo (atOf gs index).ms.length mc) (atOf gs index).ms ∧ Below w.heap.size w w' := by
  obtain ⟨⟨rv, hbx, hrr⟩, hDp, hlt⟩ := h
  obtain ⟨ao, cap, rfl, -⟩ := hrr.slice
  obtain ⟨N, hN⟩ : ∃ N, gs.length = N := ⟨_, rfl⟩
  have hN0 : 0 < N := by have := List.length_pos_iff.2 hne; omega
  rw [hN] at hbx hrr hl
  have hG : ∀ x : Fin N, ∃ g, gs[x.1]? = some g := fun x => ⟨_, List.getElem?_eq_getElem (by rw [hN]; exact x.2)⟩
  obtain ⟨G, hG⟩ := Classical.axiomOfChoice hG
  obtain ⟨b, -, -, hao, -⟩ := hrr.at (hG ⟨0, hN0⟩)
  subst hao
  have hM : ∀ x : Fin N, ∃ m : Option Addr × Nat, (w.cell? ⟨b, x.1 * 5, none⟩ = some (.int .i64 (G x).n) ∧ w.cell? ⟨b, x.1 * 5 + 1, none⟩ = some (.int .i64 (G x).eng) ∧ w.cell? ⟨b, x.1 * 5 + 2, none⟩ = some (.int .i64 (G x).base) ∧ w.cell? ⟨b, x.1 * 5 + 3, none⟩ = some (.slice none 0 0) ∧ w.cell? ⟨b, x.1 * 5 + 4, none⟩ = some (.slice m.1 (G x).ms.length m.2)) ∧ IntsR w m.1 (G x).ms ∧ (G x).ms.length ≤ 1000000 := fun x => by
    obtain ⟨b', mo, mc, e, -, c0, c1, c2, c3, c4, o4, -, l4⟩ := hrr.at (hG x)
    cases e
    obtain ⟨ao', ca', e, hfr, -⟩ := o4.slice
    cases e
    exact ⟨(mo, mc), ⟨c0, c1, c2, c3, c4⟩, hfr.1, l4⟩
  obtain ⟨M, hM⟩ := Classical.axiomOfChoice hM
  have hrev : (downs N N).map G = gs.reverse := by
    have e : (List.finRange N).map G = gs := by
      apply List.ext_getElem
      · simp [hN]
      · intro i h1 h2
        have hi : i < N := by omega
        have := hG ⟨i, hi⟩
        rw [List.getElem?_eq_getElem (by omega)] at this
        simp only [List.getElem_map, List.getElem_finRange]
        simpa using this.symm
    unfold downs
    rw [List.take_of_length_le (by simp), List.map_reverse, e]
  have hb0 : b < w.heap.size := blk_lt (hM ⟨0, hN0⟩).1.1
  have pc : w.cell? ⟨p, 0, none⟩ = some (.slice (some ⟨b, 0, none⟩) N cap) := (cell_of_block hbx).trans rfl
  obtain ⟨W0, hW0⟩ : ∃ W, (w.alloc (.cells #[.int .i64 index] 3)).alloc (.cells #[.int .i64 0, .int .i64 0, .int .i64 0, .slice none 0 0, .slice none 0 0] 26) = W := ⟨_, rfl⟩
  have s0 : W0.heap.size = w.heap.size + 1 + 1 := by rw [← hW0]; simp
  have b0 : Below w.heap.size w W0 := by rw [← hW0]; exact ((Below.refl _ w).alloc (Nat.le_refl _) _).alloc (by simp) _
  have x0 : W0.heap[w.heap.size]? = some (.cells #[.int .i64 index] 3 (0, 0)) := by
    rw [← hW0]; exact Below.stay ((Below.refl _ _).alloc (Nat.le_refl _) _) (box_at _ _)
  have x1 : W0.heap[w.heap.size + 1]? = some (.cells #[.int .i64 0, .int .i64 0, .int .i64 0, .slice none 0 0, .slice none 0 0] 26 (0, 0)) := by
    have := box_at (w.alloc (.cells #[.int .i64 index] 3)) (.cells #[.int .i64 0, .int .i64 0, .int .i64 0, .slice none 0 0, .slice none 0 0] 26)
    rw [hW0, World.size_alloc] at this; exact this
  have p0 : W0.cell? ⟨p, 0, none⟩ = some (.slice (some ⟨b, 0, none⟩) N cap) := (b0.cell (blk_lt pc)).trans pc
  obtain ⟨W1, hW1⟩ : ∃ W, W0.alloc (.cells #[.slice (some ⟨b, 0, none⟩) N cap] 46) = W := ⟨_, rfl⟩
  have s1 : W1.heap.size = w.heap.size + 1 + 1 + 1 := by rw [← hW1]; simp [s0]
  have b1 : Below W0.heap.size W0 W1 := by rw [← hW1]; exact (Below.refl _ _).alloc (Nat.le_refl _) _
  have y0 := Below.stay b1 x0
  have y1 := Below.stay b1 x1
  have y2 : W1.heap[w.heap.size + 1 + 1]? = some (.cells #[.slice (some ⟨b, 0, none⟩) N cap] 46 (0, 0)) := by rw [← s0, ← hW1]; exact box_at _ _
  have bw1 := below_far b0 b1
  have c2 : W1.cell? ⟨w.heap.size + 1 + 1, 0, none⟩ = some (.slice (some ⟨b, 0, none⟩) N cap) := (cell_of_block y2).trans rfl
  clear x0 x1 hbx hrr hDp hlt pc b1 y2
  refine (callsIn_wide (n := 6)).1 ?_
  refine callsIn_of_wp_marks Tryz.func18 rfl trivial ?_
  simp only [Tryz.ntmps18, List.size_toArray, List.length_cons, List.length_nil, Nat.reduceAdd, Nat.reduceSub, Array.replicate_succ, Array.replicate_zero, List.push_toArray, List.append_toArray, List.nil_append, List.cons_append]
  gi_wp2_with (refine ⟨trivial, ?_⟩; gi_at_call 37; refine (backward_in _ _ _ _ _).mono ?_; rintro e w' ⟨rfl, rfl⟩)
  clear hW0 hW1 p0 s0
  refine wpIn_rangeFunc_ownH (α := Fin N) rfl (by omega) (gf := 51) (lb := #[.pointer (some ⟨w.heap.size + 1 + 1, 0, none⟩)]) rfl trivial (enters_of Tryz.func51 (by kernel_rfl) rfl)
    (encs := genEnc (fun x => .agg #[.int .i64 (G x).n, .int .i64 (G x).eng, .int .i64 (G x).base, .slice none 0 0, .slice (M x).1 (G x).ms.length (M x).2])) (Kp := Below W1.heap.size) (S := fun ys => ys = downs N N) (Sp := fun pre => ∃ j, j ≤ N ∧ pre = downs N j) (N := N) (w0 := W1)
    (fun l J Jx W hW _ _ hY h0 => backward1_in _ l (w.heap.size + 1 + 1) W1.heap.size b cap N hl (by omega) (fun x => ((G x).n, (G x).eng, (G x).base, .slice (M x).1 (G x).ms.length (M x).2)) (by omega) J Jx hY W (Nat.lt_of_lt_of_le (by omega) hW.size) ((hW.cell (p := ⟨w.heap.size + 1 + 1, 0, none⟩) (show w.heap.size + 1 + 1 < W1.heap.size by omega)).trans c2) (by omega)
      (fun x => by
        have hh := fun (a : Addr) (u : Value) (hu : w.cell? a = some u) => ((hW.cell (Nat.lt_of_lt_of_le (blk_lt hu) bw1.size)).trans ((bw1.cell (blk_lt hu)).trans hu) : W.cell? a = some u)
        obtain ⟨k0, k1, k2, k3, k4⟩ := (hM x).1
        exact ⟨hh _ _ k0, hh _ _ k1, hh _ _ k2, hh _ _ k3, hh _ _ k4⟩) h0)
    belowK_t (belowK_b (Nat.le_refl _)) (Below.refl _ _) (fun _ => rfl)
    (AtI G index W1) (AtX G index w) (atI_own G index W1) (fun c => atX_own G index w c bw1.size)
    ⟨fun y hy => absurd hy (by simp), Below.refl _ _⟩
    (fun x a' W => ∃ Bx, W.heap[Bx]? = some (.cells #[.int .i64 (G x).n, .int .i64 (G x).eng, .int .i64 (G x).base, .slice none 0 0, .slice (M x).1 (G x).ms.length (M x).2] 26 (0, 0)) ∧ a' = { tmps := #[.pointer (some ⟨p, 0, none⟩), .int .i64 index, undef, .pointer (some ⟨w.heap.size, 0, none⟩), .pointer (some ⟨w.heap.size + 1, 0, none⟩), undef, .pointer (some ⟨Bx, 0, none⟩), .pointer (some ⟨p, 0, none⟩), .pointer (some ⟨p, 0, none⟩), .pointer (some ⟨p, 0, none⟩), .slice (some ⟨b, 0, none⟩) N cap, .func (.func 51) #[] #[.pointer (some ⟨w.heap.size + 1 + 1, 0, none⟩)], .int .i64 ((x.1 : Nat) : Int), .agg #[.int .i64 (G x).n, .int .i64 (G x).eng, .int .i64 (G x).base, .slice none 0 0, .slice (M x).1 (G x).ms.length (M x).2], undef, undef, undef, undef, undef, undef, undef], defers := [] })
    (fun x a' _ X Y row hs hg hr => by obtain ⟨Bx, h1, h2⟩ := hs; exact ⟨Bx, heap_own h1 hg (fun r e => (hr r e).2), h2⟩)
    ?assign ?body ?done ?stop
  case assign =>
    rintro l pre x W K ⟨hp, hB⟩ hK
    unfold genEnc
    gi_wp2
    exact hK _ _ ((KeepsOthers.alloc _ _).from _) ((Below.refl _ W).alloc hB.size _) ⟨hp, hB.alloc hB.size _⟩ ⟨W.heap.size, box_at _ _, rfl⟩
  case body =>
    rintro l pre x a' W hl' ⟨r, hr⟩ ⟨hp, hB⟩ ⟨Bx, hX, rfl⟩ hlt
    have g0 : W.cell? ⟨w.heap.size, 0, none⟩ = some (.int .i64 index) := (hB.cell (p := ⟨w.heap.size, 0, none⟩) (show w.heap.size < W1.heap.size by omega)).trans ((cell_of_block y0).trans rfl)
    have k0 : W.cell? ⟨Bx, 0, none⟩ = some (.int .i64 (G x).n) := (cell_of_block hX).trans rfl
    have k1 : W.cell? ⟨Bx, 1, none⟩ = some (.int .i64 (G x).eng) := (cell_of_block hX).trans rfl
    have k2 : W.cell? ⟨Bx, 2, none⟩ = some (.int .i64 (G x).base) := (cell_of_block hX).trans rfl
    have k3 : W.cell? ⟨Bx, 3, none⟩ = some (.slice none 0 0) := (cell_of_block hX).trans rfl
    have k4 : W.cell? ⟨Bx, 4, none⟩ = some (.slice (M x).1 (G x).ms.length (M x).2) := (cell_of_block hX).trans rfl
    have r1 : W.heap[w.heap.size + 1]? = some (.cells #[.int .i64 0, .int .i64 0, .int .i64 0, .slice none 0 0, .slice none 0 0] 26 (0, 0)) := Below.stay hB y1
    have bW : Below w.heap.size w W := below_far bw1 hB
    have CT := hide (setwin_any (G x) none 0 0 (M x).1 (G x).ms.length (M x).2 rfl (hM x).2.2 W ((hM x).2.1.below bW))
    have S1 := hide s1
    clear s1
    by_cases hx : (G x).base < index
    · have X0 := hide y0
      have R1 := hide r1
      have BW := hide bW
      clear y0 y1 r1 bW
      gi_wp2_with (refine ⟨trivial, ?_⟩; gi_at_call 36; refine (CallsIn.inRound l (callsIn_wide.2 (unhide CT))).mono ?_; rintro e w2 ⟨c, rfl, o2, b2⟩; have r2 := Below.stay b2 (unhide R1); have z0 : w2.cell? ⟨w.heap.size + 1, 0, none⟩ = some (.int .i64 0) := (cell_of_block r2).trans rfl; have z1 : w2.cell? ⟨w.heap.size + 1, 1, none⟩ = some (.int .i64 0) := (cell_of_block r2).trans rfl; have z2 : w2.cell? ⟨w.heap.size + 1, 2, none⟩ = some (.int .i64 0) := (cell_of_block r2).trans rfl; have z3 : w2.cell? ⟨w.heap.size + 1, 3, none⟩ = some (.slice none 0 0) := (cell_of_block r2).trans rfl; have z4 : w2.cell? ⟨w.heap.size + 1, 4, none⟩ = some (.slice none 0 0) := (cell_of_block r2).trans rfl; have fz : ∀ i, w2.frozen? ⟨w.heap.size + 1, i, none⟩ = false := fun i => free_of_block r2; have R2 := hide r2; have O2 := hide (o2.more (unhide BW).size); have B2 := hide b2; clear r2 o2 b2)
      obtain ⟨U, hU⟩ : ∃ U : World, U = (((((w2.setCell ⟨w.heap.size + 1, 0, none⟩ (.int .i64 (G x).n)).setCell ⟨w.heap.size + 1, 1, none⟩ (.int .i64 (G x).eng)).setCell ⟨w.heap.size + 1, 2, none⟩ (.int .i64 (G x).base)).setCell ⟨w.heap.size + 1, 3, none⟩ (.slice none 0 0)).setCell ⟨w.heap.size + 1, 4, none⟩ (.slice (some ⟨c, 0, none⟩) (G x).ms.length (G x).ms.length)) := ⟨_, rfl⟩
      obtain ⟨hh, bU, kU⟩ := five_end (unhide R2) (Nat.le_succ _) (below_far (unhide BW) (unhide B2)) U hU
      rw [← hU]
      refine ⟨(below_from (unhide B2) _).trans ?_, ⟨rfl, pre, x, c, rfl, hp, hx, hh, (unhide O2).other kU (unhide R2) (by decide)⟩, bU⟩
      rw [hU]
      exact (keep5 _ _ _ _ _ _ _).from _
    · gi_wp2
      exact ⟨KeepsFrom.refl _ _, Below.refl _ _, fun y hy => (List.mem_append.1 hy).elim (hp y) (fun e => by simp at e; subst e; exact hx), hB⟩
  case done =>
    rintro D' ys W hD rfl ⟨hp, hB⟩ hK
    have r2 : W.heap[w.heap.size + 1]? = some (.cells #[.int .i64 0, .int .i64 0, .int .i64 0, .slice none 0 0, .slice none 0 0] 26 (0, 0)) := Below.stay hB y1
    have z0 : W.cell? ⟨w.heap.size + 1, 0, none⟩ = some (.int .i64 0) := (cell_of_block r2).trans rfl
    have z1 : W.cell? ⟨w.heap.size + 1, 1, none⟩ = some (.int .i64 0) := (cell_of_block r2).trans rfl
    have z2 : W.cell? ⟨w.heap.size + 1, 2, none⟩ = some (.int .i64 0) := (cell_of_block r2).trans rfl
    have z3 : W.cell? ⟨w.heap.size + 1, 3, none⟩ = some (.slice none 0 0) := (cell_of_block r2).trans rfl
    have z4 : W.cell? ⟨w.heap.size + 1, 4, none⟩ = some (.slice none 0 0) := (cell_of_block r2).trans rfl
    have fz : ∀ i, W.frozen? ⟨w.heap.size + 1, i, none⟩ = false := fun i => free_of_block r2
    have bW : Below w.heap.size w W := below_far bw1 hB
    have R2 := hide r2
    have hat : atOf gs index = zeroGn := by
      unfold atOf
      rw [← hrev, List.find?_eq_none.2]
      · rfl
      · intro g hg
        obtain ⟨y, hy, rfl⟩ := List.mem_map.1 hg
        have := hp y hy
        simpa using this
    clear r2 y0 y1
    gi_wp2
    obtain ⟨U, hU⟩ : ∃ U : World, U = (((((W.setCell ⟨w.heap.size + 1, 0, none⟩ (.int .i64 0)).setCell ⟨w.heap.size + 1, 1, none⟩ (.int .i64 0)).setCell ⟨w.heap.size + 1, 2, none⟩ (.int .i64 0)).setCell ⟨w.heap.size + 1, 3, none⟩ (.slice none 0 0)).setCell ⟨w.heap.size + 1, 4, none⟩ (.slice none 0 0)) := ⟨_, rfl⟩
    obtain ⟨hh, bU, kU⟩ := five_end (unhide R2) (Nat.le_succ _) bW U hU
    rw [← hU]
    have hK' : U.heap[D']? = some (.deferred (some [])) := by rw [hU]; exact (keep5 _ _ _ _ _ _ _).same D' _ hK rfl
    refine ⟨by simp, .inl ⟨_, _, rfl, run_takeDeferred hK', ?_⟩⟩
    have hh' := heap_own hh (grownBy_putObj' _ D' (.deferred none)) (fun r e => by cases e; exact ⟨_, hK', rfl⟩)
    obtain ⟨V, hV⟩ : ∃ V, U.putObj D' (.deferred none) = V := ⟨_, rfl⟩
    have bV : Below w.heap.size w V := by
      rw [← hV]
      exact bU.trans (belowK_b (w := W1) bw1.size U D' _ _ hD hK' rfl rfl)
    rw [hV] at hh' ⊢
    have e0 : V.cell? ⟨w.heap.size + 1, 0, none⟩ = some (.int .i64 0) := (cell_of_block hh').trans rfl
    have e1 : V.cell? ⟨w.heap.size + 1, 1, none⟩ = some (.int .i64 0) := (cell_of_block hh').trans rfl
    have e2 : V.cell? ⟨w.heap.size + 1, 2, none⟩ = some (.int .i64 0) := (cell_of_block hh').trans rfl
    have e3 : V.cell? ⟨w.heap.size + 1, 3, none⟩ = some (.slice none 0 0) := (cell_of_block hh').trans rfl
    have e4 : V.cell? ⟨w.heap.size + 1, 4, none⟩ = some (.slice none 0 0) := (cell_of_block hh').trans rfl
    refine ⟨.agg #[.int .i64 0, .int .i64 0, .int .i64 0, .slice none 0 0, .slice none 0 0], by simp [results, Tryz.results18, go_sem, e0, e1, e2, e3, e4], none, 0, by first | rfl | (rw [hat]; rfl), by first | exact Ir.nil _ _ | (rw [hat]; exact Ir.nil _ _), bV⟩
  case stop =>
    rintro D' c pre W hD ⟨j, hj, rfl⟩ ⟨⟨rfl, ini, x, k, e1, e2, e3, hc, hir⟩, hB⟩ hK
    have hat : atOf gs index = G x := by
      unfold atOf
      have hj' : downs N j = (downs N N).take j := by
        unfold downs
        rw [List.take_take, Nat.min_eq_left hj]
      have hd : downs N N = downs N j ++ (downs N N).drop j := by rw [hj', List.take_append_drop]
      rw [← hrev, hd, e1, List.map_append, List.map_append, List.append_assoc, List.map_cons, List.map_nil, List.singleton_append,
        find_append _ _ _ _ (fun y hy => by obtain ⟨z, hz, rfl⟩ := List.mem_map.1 hy; simpa using e2 z hz) (by simpa using e3)]
      rfl
    gi_wp2
    refine ⟨by simp, .inl ⟨_, _, rfl, run_takeDeferred hK, ?_⟩⟩
    have hr : ∀ r, some D' = some r → ∃ o : Obj, W.heap[r]? = some o ∧ o.isCells = false := fun r e => by cases e; exact ⟨_, hK, rfl⟩
    have hh' := heap_own hc (grownBy_putObj' _ D' (.deferred none)) hr
    have hi' := ir_own hir (grownBy_putObj' _ D' (.deferred none)) hr
    obtain ⟨V, hV⟩ : ∃ V, W.putObj D' (.deferred none) = V := ⟨_, rfl⟩
    have bV : Below w.heap.size w V := by
      rw [← hV]
      exact hB.trans (belowK_b (w := W1) bw1.size W D' _ _ hD hK rfl rfl)
    rw [hV] at hh' hi' ⊢
    have e0 : V.cell? ⟨w.heap.size + 1, 0, none⟩ = some (.int .i64 (G x).n) := (cell_of_block hh').trans rfl
    have e1 : V.cell? ⟨w.heap.size + 1, 1, none⟩ = some (.int .i64 (G x).eng) := (cell_of_block hh').trans rfl
    have e2 : V.cell? ⟨w.heap.size + 1, 2, none⟩ = some (.int .i64 (G x).base) := (cell_of_block hh').trans rfl
    have e3 : V.cell? ⟨w.heap.size + 1, 3, none⟩ = some (.slice none 0 0) := (cell_of_block hh').trans rfl
    have e4 : V.cell? ⟨w.heap.size + 1, 4, none⟩ = some (.slice (some ⟨k, 0, none⟩) (G x).ms.length (G x).ms.length) := (cell_of_block hh').trans rfl
    refine ⟨.agg #[.int .i64 (G x).n, .int .i64 (G x).eng, .int .i64 (G x).base, .slice none 0 0, .slice (some ⟨k, 0, none⟩) (G x).ms.length (G x).ms.length], by simp [results, Tryz.results18, go_sem, e0, e1, e2, e3, e4], some ⟨k, 0, none⟩, _, by first | rfl | (rw [hat]; rfl), by first | exact hi' | (rw [hat]; exact hi'), bV⟩
end Go.Proofs.YtgllokinadjiaaaGreatDoor

/- seal: wrong: a contract. seal: All: a contract. seal: add: contracts; append of one generation. A struct of five cells stored in a drawn region. -/
import Derived.Test.YtgllokinadjiaaaGreatDoorKPlain
import Derived.Test.YtgllokinadjiaaaGreatDoorSTwin
namespace Go.Proofs.YtgllokinadjiaaaGreatDoor
open Go.RowKit Go.Maps

/-- why a generation may not be the next one: of what is asked, in this order. -/
def wrongB (f g : Bool) (c : Nat) (j k : Bool) : Int := if f = false ∨ g = false then 1 else if c ≠ 0 then (c : Int) else if j = true then 1 else if k = true then 4 else 0
def wrongG (gs : List Gn) (n e b : Int) (old new : List Int) : Int := wrongB (followsOf gs n b) (decide (e = 1 ∨ e = 2)) (checkOf old new) (decide (0 < old.length)) (decide (60 ≤ gs.length))
set_option maxRecDepth 20000 in
set_option maxHeartbeats 2000000 in
theorem wrong_gn {D : Nat → Prop} {w : World} {p : Nat} {gs : List Gn} (h : Gs D w p gs) (hl : gs.length ≤ 1000000) (n e b : Int) (xo mo : Option Addr) (xn xc m mc : Nat) (old new : List Int) (hno : old.length = xn) (hnn : new.length = m) (hlo : xn ≤ 1000000000) (hln : m ≤ 1000000000) (ho : IntsR w xo old) (hw : IntsR w mo new) :
    Calls Tryz.prog 49 #[.pointer (some ⟨p, 0, none⟩), .agg #[.int .i64 n, .int .i64 e, .int .i64 b, .slice xo xn xc, .slice mo m mc]] w fun x w' => x = .returned (.int .i64 (wrongG gs n e b old new)) ∧ Below w.heap.size w w' := by
  obtain ⟨W, hW, bW, xW⟩ := boxG w n e b xo mo xn xc m mc
  have CF := hide (follows_any (h.below bW) hl n e b xo mo xn xc m mc)
  have CG := hide (fun (Y : World) => (isEngine_any e Y).mono (R' := fun x w' => x = .returned (.bool (decide (e = 1 ∨ e = 2))) ∧ Below Y.heap.size Y w') (by rintro x w' ⟨rfl, rfl⟩; exact ⟨rfl, Below.refl _ _⟩))
  have CC := hide (fun (Y : World) (hY : Below w.heap.size w Y) => check_any xo mo xn m xc mc old new hno hnn hlo hln Y (ho.below hY) (hw.below hY))
  have CJ := hide (fun (Y : World) => joint_any (.slice xo xn xc) (.slice mo m mc) xo xn xc rfl Y)
  obtain ⟨⟨rv, hbx, hrr⟩, hDp, hlt⟩ := h
  obtain ⟨ao, ca, rfl, -⟩ := hrr.slice
  obtain ⟨N, hN⟩ : ∃ N, gs.length = N := ⟨_, rfl⟩
  rw [hN] at hbx
  have XC : Hid (∀ Y, Below W.heap.size W Y → (Y.cell? ⟨w.heap.size, 0, none⟩ = some (.int .i64 n) ∧ Y.cell? ⟨w.heap.size, 1, none⟩ = some (.int .i64 e) ∧ Y.cell? ⟨w.heap.size, 2, none⟩ = some (.int .i64 b) ∧ Y.cell? ⟨w.heap.size, 3, none⟩ = some (.slice xo xn xc) ∧ Y.cell? ⟨w.heap.size, 4, none⟩ = some (.slice mo m mc)) ∧ Y.cell? ⟨p, 0, none⟩ = some (.slice ao N ca)) := hide (fun Y hY =>
    have x := Below.stay hY xW
    ⟨⟨(cell_of_block x).trans rfl, (cell_of_block x).trans rfl, (cell_of_block x).trans rfl, (cell_of_block x).trans rfl, (cell_of_block x).trans rfl⟩, (cell_of_block (Below.stay hY (Below.stay bW hbx))).trans rfl⟩)
  have HW := hide hW
  have BW := hide bW
  have HR : Hid (wrongG gs n e b old new = wrongB (followsOf gs n b) (decide (e = 1 ∨ e = 2)) (checkOf old new) (decide (0 < xn)) (decide (60 ≤ N))) := hide (by unfold wrongG; rw [hno, hN])
  rw [unhide HR]
  obtain ⟨f, hf⟩ : ∃ f, followsOf gs n b = f := ⟨_, rfl⟩
  obtain ⟨g, hg⟩ : ∃ g, decide (e = 1 ∨ e = 2) = g := ⟨_, rfl⟩
  obtain ⟨c, hc⟩ : ∃ c, checkOf old new = c := ⟨_, rfl⟩
  obtain ⟨j, hj⟩ : ∃ j, decide (0 < xn) = j := ⟨_, rfl⟩
  rw [hf] at CF ⊢
  rw [hg] at CG ⊢
  rw [hc] at CC ⊢
  rw [hj] at CJ ⊢
  have hNl : N ≤ 1000000 := by omega
  clear hf hg hc hj hbx hrr hDp hlt hW bW xW HR hN hno hnn hlo hln ho hw hl
  cases f with
  | false =>
    rw [show wrongB false g c j (decide (60 ≤ N)) = 1 from rfl]
    go_enter Tryz.func49, Tryz.ntmps49
    go_upto_region 1 with fail
    rw [unhide HW]
    obtain ⟨⟨k0, k1, k2, k3, k4⟩, kp⟩ := unhide XC _ (Below.refl _ W)
    go_wp2_with fail
    refine (unhide CF).mono ?_
    clear k0 k1 k2 k3 k4 kp
    rintro x w1 ⟨rfl, b1⟩
    have B1 := hide b1
    clear b1
    obtain ⟨⟨k0, k1, k2, k3, k4⟩, kp⟩ := unhide XC _ (unhide B1)
    go_wp2
    go_ret
    exact ⟨rfl, below_far (unhide BW) (unhide B1)⟩
  | true =>
    cases g with
    | false =>
      rw [show wrongB true false c j (decide (60 ≤ N)) = 1 from rfl]
      go_enter Tryz.func49, Tryz.ntmps49
      go_upto_region 1 with fail
      rw [unhide HW]
      obtain ⟨⟨k0, k1, k2, k3, k4⟩, kp⟩ := unhide XC _ (Below.refl _ W)
      go_wp2_with fail
      refine (unhide CF).mono ?_
      clear k0 k1 k2 k3 k4 kp
      rintro x w1 ⟨rfl, b1⟩
      have B1 := hide b1
      clear b1
      obtain ⟨⟨k0, k1, k2, k3, k4⟩, kp⟩ := unhide XC _ (unhide B1)
      have C2 := hide (unhide CG w1)
      go_wp2_with fail
      refine (unhide C2).mono ?_
      clear k0 k1 k2 k3 k4 kp
      rintro x w2 ⟨rfl, b2⟩
      have B2 := hide (below_far (unhide B1) b2)
      clear b2
      obtain ⟨⟨k0, k1, k2, k3, k4⟩, kp⟩ := unhide XC _ (unhide B2)
      go_wp2
      go_ret
      exact ⟨rfl, below_far (unhide BW) (unhide B2)⟩
    | true =>
      by_cases hc0 : c = 0
      · subst hc0
        cases j with
        | true =>
          rw [show wrongB true true 0 true (decide (60 ≤ N)) = 1 from rfl]
          go_enter Tryz.func49, Tryz.ntmps49
          go_upto_region 1 with fail
          rw [unhide HW]
          obtain ⟨⟨k0, k1, k2, k3, k4⟩, kp⟩ := unhide XC _ (Below.refl _ W)
          go_wp2_with fail
          refine (unhide CF).mono ?_
          clear k0 k1 k2 k3 k4 kp
          rintro x w1 ⟨rfl, b1⟩
          have B1 := hide b1
          clear b1
          obtain ⟨⟨k0, k1, k2, k3, k4⟩, kp⟩ := unhide XC _ (unhide B1)
          have C2 := hide (unhide CG w1)
          go_wp2_with fail
          refine (unhide C2).mono ?_
          clear k0 k1 k2 k3 k4 kp
          rintro x w2 ⟨rfl, b2⟩
          have B2 := hide (below_far (unhide B1) b2)
          clear b2
          obtain ⟨⟨k0, k1, k2, k3, k4⟩, kp⟩ := unhide XC _ (unhide B2)
          have C3 := hide (unhide CC w2 (below_far (unhide BW) (unhide B2)))
          go_wp2_with fail
          refine (unhide C3).mono ?_
          clear k0 k1 k2 k3 k4 kp
          rintro x w3 ⟨rfl, b3⟩
          have B3 := hide (below_far (unhide B2) b3)
          clear b3
          obtain ⟨⟨k0, k1, k2, k3, k4⟩, kp⟩ := unhide XC _ (unhide B3)
          have C4 := hide (unhide CJ w3)
          go_wp2_with fail
          refine (unhide C4).mono ?_
          clear k0 k1 k2 k3 k4 kp
          rintro x w4 ⟨rfl, b4⟩
          have B4 := hide (below_far (unhide B3) b4)
          clear b4
          obtain ⟨⟨k0, k1, k2, k3, k4⟩, kp⟩ := unhide XC _ (unhide B4)
          go_wp2
          go_ret
          exact ⟨rfl, below_far (unhide BW) (unhide B4)⟩
        | false =>
          by_cases h60 : 60 ≤ N
          · rw [decide_eq_true h60, show wrongB true true 0 false true = 4 from rfl]
            have q6 : (60 : Int) ≤ (N : Int) := by omega
            go_enter Tryz.func49, Tryz.ntmps49
            go_upto_region 1 with fail
            rw [unhide HW]
            obtain ⟨⟨k0, k1, k2, k3, k4⟩, kp⟩ := unhide XC _ (Below.refl _ W)
            go_wp2_with fail
            refine (unhide CF).mono ?_
            clear k0 k1 k2 k3 k4 kp
            rintro x w1 ⟨rfl, b1⟩
            have B1 := hide b1
            clear b1
            obtain ⟨⟨k0, k1, k2, k3, k4⟩, kp⟩ := unhide XC _ (unhide B1)
            have C2 := hide (unhide CG w1)
            go_wp2_with fail
            refine (unhide C2).mono ?_
            clear k0 k1 k2 k3 k4 kp
            rintro x w2 ⟨rfl, b2⟩
            have B2 := hide (below_far (unhide B1) b2)
            clear b2
            obtain ⟨⟨k0, k1, k2, k3, k4⟩, kp⟩ := unhide XC _ (unhide B2)
            have C3 := hide (unhide CC w2 (below_far (unhide BW) (unhide B2)))
            go_wp2_with fail
            refine (unhide C3).mono ?_
            clear k0 k1 k2 k3 k4 kp
            rintro x w3 ⟨rfl, b3⟩
            have B3 := hide (below_far (unhide B2) b3)
            clear b3
            obtain ⟨⟨k0, k1, k2, k3, k4⟩, kp⟩ := unhide XC _ (unhide B3)
            have C4 := hide (unhide CJ w3)
            go_wp2_with fail
            refine (unhide C4).mono ?_
            clear k0 k1 k2 k3 k4 kp
            rintro x w4 ⟨rfl, b4⟩
            have B4 := hide (below_far (unhide B3) b4)
            clear b4
            obtain ⟨⟨k0, k1, k2, k3, k4⟩, kp⟩ := unhide XC _ (unhide B4)
            go_wp2
            go_ret
            exact ⟨rfl, below_far (unhide BW) (unhide B4)⟩
          · rw [decide_eq_false h60, show wrongB true true 0 false false = 0 from rfl]
            have q6 : ¬ (60 : Int) ≤ (N : Int) := by omega
            go_enter Tryz.func49, Tryz.ntmps49
            go_upto_region 1 with fail
            rw [unhide HW]
            obtain ⟨⟨k0, k1, k2, k3, k4⟩, kp⟩ := unhide XC _ (Below.refl _ W)
            go_wp2_with fail
            refine (unhide CF).mono ?_
            clear k0 k1 k2 k3 k4 kp
            rintro x w1 ⟨rfl, b1⟩
            have B1 := hide b1
            clear b1
            obtain ⟨⟨k0, k1, k2, k3, k4⟩, kp⟩ := unhide XC _ (unhide B1)
            have C2 := hide (unhide CG w1)
            go_wp2_with fail
            refine (unhide C2).mono ?_
            clear k0 k1 k2 k3 k4 kp
            rintro x w2 ⟨rfl, b2⟩
            have B2 := hide (below_far (unhide B1) b2)
            clear b2
            obtain ⟨⟨k0, k1, k2, k3, k4⟩, kp⟩ := unhide XC _ (unhide B2)
            have C3 := hide (unhide CC w2 (below_far (unhide BW) (unhide B2)))
            go_wp2_with fail
            refine (unhide C3).mono ?_
            clear k0 k1 k2 k3 k4 kp
            rintro x w3 ⟨rfl, b3⟩
            have B3 := hide (below_far (unhide B2) b3)
            clear b3
            obtain ⟨⟨k0, k1, k2, k3, k4⟩, kp⟩ := unhide XC _ (unhide B3)
            have C4 := hide (unhide CJ w3)
            go_wp2_with fail
            refine (unhide C4).mono ?_
            clear k0 k1 k2 k3 k4 kp
            rintro x w4 ⟨rfl, b4⟩
            have B4 := hide (below_far (unhide B3) b4)
            clear b4
            obtain ⟨⟨k0, k1, k2, k3, k4⟩, kp⟩ := unhide XC _ (unhide B4)
            go_wp2
            go_ret
            exact ⟨rfl, below_far (unhide BW) (unhide B4)⟩
      · have HR : Hid (wrongB true true c j (decide (60 ≤ N)) = (c : Int)) := hide (by unfold wrongB; simp [hc0])
        rw [unhide HR]
        have q : ((c : Int) == 0) = false := by simp [hc0]
        clear HR hc0
        go_enter Tryz.func49, Tryz.ntmps49
        go_upto_region 1 with fail
        rw [unhide HW]
        obtain ⟨⟨k0, k1, k2, k3, k4⟩, kp⟩ := unhide XC _ (Below.refl _ W)
        go_wp2_with fail
        refine (unhide CF).mono ?_
        clear k0 k1 k2 k3 k4 kp
        rintro x w1 ⟨rfl, b1⟩
        have B1 := hide b1
        clear b1
        obtain ⟨⟨k0, k1, k2, k3, k4⟩, kp⟩ := unhide XC _ (unhide B1)
        have C2 := hide (unhide CG w1)
        go_wp2_with fail
        refine (unhide C2).mono ?_
        clear k0 k1 k2 k3 k4 kp
        rintro x w2 ⟨rfl, b2⟩
        have B2 := hide (below_far (unhide B1) b2)
        clear b2
        obtain ⟨⟨k0, k1, k2, k3, k4⟩, kp⟩ := unhide XC _ (unhide B2)
        have C3 := hide (unhide CC w2 (below_far (unhide BW) (unhide B2)))
        go_wp2_with fail
        refine (unhide C3).mono ?_
        clear k0 k1 k2 k3 k4 kp
        rintro x w3 ⟨rfl, b3⟩
        have B3 := hide (below_far (unhide B2) b3)
        clear b3
        obtain ⟨⟨k0, k1, k2, k3, k4⟩, kp⟩ := unhide XC _ (unhide B3)
        go_wp2
        go_ret
        exact ⟨rfl, below_far (unhide BW) (unhide B3)⟩
end Go.Proofs.YtgllokinadjiaaaGreatDoor
namespace Go.Proofs.YtgllokinadjiaaaGreatDoor
open Go.RowKit Go.Maps

theorem Tryz.infoGn : (Tryz.prog.info? 26).map (fun i => (i.zero, i.size, i.bytes)) = some (some (.agg #[.int .i64 0, .int .i64 0, .int .i64 0, .slice none 0 0, .slice none 0 0]), 5, 72) := by kernel_rfl
/-- a row of which k generations are laid. -/
def Laying (base : Nat) (w : World) (B : Nat) (gs : List Gn) (k : Nat) : Prop :=
  ∃ cs : Array Value, w.heap[B]? = some (.cells cs 26 (0, 0)) ∧ cs.size = gs.length * 5 ∧
    ∀ (i : Nat) (g : Gn), gs[i]? = some g → i < k → ∃ mv, (∀ (j : Nat) (u : Value), (g.cells mv)[j]? = some u → cs[i * 5 + j]? = some u) ∧ Ir base w mv g.ms ∧ g.ms.length ≤ 1000000
theorem Laying.below {base : Nat} {w w' : World} {B : Nat} {gs : List Gn} {k : Nat} (h : Laying base w B gs k) (hb : Below w.heap.size w w') : Laying base w' B gs k := by
  obtain ⟨cs, h1, h2, h3⟩ := h
  refine ⟨cs, Below.stay hb h1, h2, fun i g hi hk => ?_⟩
  obtain ⟨mv, k1, k2, k3⟩ := h3 i g hi hk
  exact ⟨mv, k1, k2.below hb, k3⟩
/-- five cells stored at a place. -/
def put5 (cs : Array Value) (o : Nat) (v0 v1 v2 v3 v4 : Value) : Array Value := ((((cs.setIfInBounds o v0).setIfInBounds (o + 1) v1).setIfInBounds (o + 2) v2).setIfInBounds (o + 3) v3).setIfInBounds (o + 4) v4
theorem put5_size (cs : Array Value) (o : Nat) (v0 v1 v2 v3 v4 : Value) : (put5 cs o v0 v1 v2 v3 v4).size = cs.size := by simp [put5]
theorem put5_other (cs : Array Value) (o : Nat) (v0 v1 v2 v3 v4 : Value) (q : Nat) (h : q < o ∨ o + 5 ≤ q) : (put5 cs o v0 v1 v2 v3 v4)[q]? = cs[q]? := by
  unfold put5
  rw [Array.getElem?_setIfInBounds_ne (by omega), Array.getElem?_setIfInBounds_ne (by omega), Array.getElem?_setIfInBounds_ne (by omega), Array.getElem?_setIfInBounds_ne (by omega), Array.getElem?_setIfInBounds_ne (by omega)]
theorem put5_at (cs : Array Value) (o : Nat) (v0 v1 v2 v3 v4 : Value) (h : o + 5 ≤ cs.size) (j : Nat) (u : Value) (hj : [v0, v1, v2, v3, v4][j]? = some u) : (put5 cs o v0 v1 v2 v3 v4)[o + j]? = some u := by
  have hj5 : j < 5 := (List.getElem?_eq_some_iff.1 hj).1
  have : j = 0 ∨ j = 1 ∨ j = 2 ∨ j = 3 ∨ j = 4 := by omega
  unfold put5
  rcases this with rfl | rfl | rfl | rfl | rfl <;> simp at hj <;> subst hj
  · simp only [Nat.add_zero]
    rw [Array.getElem?_setIfInBounds_ne (by omega), Array.getElem?_setIfInBounds_ne (by omega), Array.getElem?_setIfInBounds_ne (by omega), Array.getElem?_setIfInBounds_ne (by omega), Array.getElem?_setIfInBounds_self_of_lt (by omega)]
  · rw [Array.getElem?_setIfInBounds_ne (by omega), Array.getElem?_setIfInBounds_ne (by omega), Array.getElem?_setIfInBounds_ne (by omega), Array.getElem?_setIfInBounds_self_of_lt (by simp; omega)]
  · rw [Array.getElem?_setIfInBounds_ne (by omega), Array.getElem?_setIfInBounds_ne (by omega), Array.getElem?_setIfInBounds_self_of_lt (by simp; omega)]
  · rw [Array.getElem?_setIfInBounds_ne (by omega), Array.getElem?_setIfInBounds_self_of_lt (by simp; omega)]
  · rw [Array.getElem?_setIfInBounds_self_of_lt (by simp; omega)]
/-- one more is laid. -/
theorem Laying.put {base : Nat} {y W : World} {B : Nat} {gs : List Gn} {k : Nat} {g : Gn} {mv : Value} (h : Laying base y B gs k) (hg : gs[k]? = some g) (hm : Ir base y mv g.ms) (hml : g.ms.length ≤ 1000000)
    (hW : W = (((((y.setCell ⟨B, k * 5, none⟩ (.int .i64 g.n)).setCell ⟨B, k * 5 + 1, none⟩ (.int .i64 g.eng)).setCell ⟨B, k * 5 + 2, none⟩ (.int .i64 g.base)).setCell ⟨B, k * 5 + 3, none⟩ (.slice none 0 0)).setCell ⟨B, k * 5 + 4, none⟩ (mv))) : Laying base W B gs (k + 1) ∧ ∀ q, q ≠ B → W.heap[q]? = y.heap[q]? := by
  obtain ⟨cs, h1, h2, h3⟩ := h
  have hkn := (List.getElem?_eq_some_iff.1 hg).1
  have hh : W.heap[B]? = some (.cells (put5 cs (k * 5) (.int .i64 g.n) (.int .i64 g.eng) (.int .i64 g.base) (.slice none 0 0) mv) 26 (0, 0)) := by
    rw [hW]; exact setCell_block (setCell_block (setCell_block (setCell_block (setCell_block h1))))
  have hk : ∀ q, q ≠ B → W.heap[q]? = y.heap[q]? := fun q hq => by
    rw [hW, Below.heap_setCell _ _ _ q hq, Below.heap_setCell _ _ _ q hq, Below.heap_setCell _ _ _ q hq, Below.heap_setCell _ _ _ q hq, Below.heap_setCell _ _ _ q hq]
  refine ⟨⟨_, hh, by rw [put5_size]; exact h2, fun i g' hi hik => ?_⟩, hk⟩
  by_cases e : i = k
  · subst e
    rw [hg] at hi; cases hi
    exact ⟨mv, fun j u hj => put5_at cs (i * 5) _ _ _ _ _ (by omega) j u hj, hm.other hk h1 (by decide), hml⟩
  · obtain ⟨mv', k1, k2, k3⟩ := h3 i g' hi (by omega)
    refine ⟨mv', fun j u hj => ?_, k2.other hk h1 (by decide), k3⟩
    have hj5 : j < 5 := (List.getElem?_eq_some_iff.1 hj).1
    rw [put5_other _ _ _ _ _ _ _ _ (by omega)]; exact k1 j u hj
theorem Laying.cell {base : Nat} {w : World} {B : Nat} {gs : List Gn} {k : Nat} (h : Laying base w B gs k) {q : Nat} (hq : q < gs.length * 5) : ∃ u, w.cell? ⟨B, q, none⟩ = some u := by
  obtain ⟨cs, h1, h2, _⟩ := h
  exact ⟨cs[q], by rw [cell_of_block h1]; exact Array.getElem?_eq_getElem (by omega)⟩
theorem Laying.free {base : Nat} {w : World} {B : Nat} {gs : List Gn} {k : Nat} (h : Laying base w B gs k) (q : Nat) : w.frozen? ⟨B, q, none⟩ = false := by
  obtain ⟨cs, h1, _⟩ := h
  exact free_of_block h1
/-- the whole row. -/
theorem Laying.row {base : Nat} {w : World} {B : Nat} {gs : List Gn} (h : Laying base w B gs gs.length) (hB : base ≤ B) (hl : gs.length ≤ 1000000) :
    GRow (fun k => base ≤ k ∧ k < w.heap.size) w (.slice (some ⟨B, 0, none⟩) gs.length gs.length) gs := by
  obtain ⟨cs, h1, h2, h3⟩ := h
  refine ⟨cs.toList, ⟨by simpa using h2, Or.inr ⟨B, gs.length, cs, rfl, Nat.zero_le _, h1, Nat.le_refl _, by unfold maxLen; omega, by omega, by rw [List.take_of_length_le (by simp; omega)]⟩⟩, fun k hk => ?_, fun i g hi => ?_⟩
  · cases hk; exact ⟨hB, heap_lt h1⟩
  · obtain ⟨mv, k1, k2, k3⟩ := h3 i g hi (List.getElem?_eq_some_iff.1 hi).1
    exact ⟨mv, fun j u hj => by simpa using k1 j u hj, k2.more (Nat.zero_le _), fun k hk => k2.lt k hk, k3⟩

set_option maxRecDepth 20000 in
set_option maxHeartbeats 2000000 in
theorem all_any {D : Nat → Prop} {w : World} {p : Nat} {gs : List Gn} (h : Gs D w p gs) {n : Nat} (hn : gs.length = n) (hl : n ≤ 1000000) :
    Calls Tryz.prog 17 #[.pointer (some ⟨p, 0, none⟩)] w fun e w' => ∃ b, e = .returned (.slice (some ⟨b, 0, none⟩) n n) ∧ GRow (fun k => w.heap.size ≤ k ∧ k < w'.heap.size) w' (.slice (some ⟨b, 0, none⟩) n n) gs ∧ Below w.heap.size w w' := by
  obtain ⟨i0, hi, hz0, hz1, hz2⟩ := info_parts Tryz.infoGn
  have HH := hide h
  obtain ⟨⟨rv, hbx, hrr⟩, hDp, hlt⟩ := h
  obtain ⟨ao, ca, rfl, -, hcm, -⟩ := hrr.slice
  rw [hn] at hbx hrr
  have pc : w.cell? ⟨p, 0, none⟩ = some (.slice ao n ca) := (cell_of_block hbx).trans rfl
  have PX := hide hbx
  have HR := hide hrr
  have HN := hide hn
  clear hbx hrr hDp hlt hn
  go_enter Tryz.func17, Tryz.ntmps17
  go_wp2_with (at_make; refine wpList_make_full _ rfl _ _ 46 rfl w.heap.size 26 i0 (.agg #[.int .i64 0, .int .i64 0, .int .i64 0, .slice none 0 0, .slice none 0 0]) 5 Tryz.underlying46 hi hz0 hz1 .i64 .i64 _ _ n rfl rfl rfl rfl (by rw [hz2]; omega) (by unfold maxLen; omega) (Nat.le_refl _) ?_)
  intro w1 hown1 hgrow1
  have b1 : Below w.heap.size w w1 := (Below.refl _ _).grown hgrow1 (Nat.le_refl _) (fun k hk => by cases hk)
  have y1 : Laying w.heap.size w1 w.heap.size gs 0 := by
    rcases hown1.2 with ⟨h, _⟩ | ⟨g, cap, cur, hv, _, hh, _, _, hc, _⟩
    · cases h
    · cases hv
      exact ⟨cur, hh, by rw [unhide HN]; exact hc, fun i g _ hk => absurd hk (Nat.not_lt_zero _)⟩
  have c1 : w1.cell? ⟨p, 0, none⟩ = some (.slice ao n ca) := (b1.cell (blk_lt pc)).trans pc
  have Y1 := hide y1
  have B1 := hide b1
  clear y1 b1 hown1 hgrow1 pc
  go_wp2
  go_loopw [17, 4, 5] (fun i _ _ wr => ∃ k : Nat, k ≤ n ∧ i = .int .i64 k ∧ Laying w.heap.size wr w.heap.size gs k ∧ Below w.heap.size w wr) (fun i _ _ _ => n - (intOf i).toNat)
  case atStart => exact ⟨0, Nat.zero_le _, rfl, unhide Y1, unhide B1⟩
  case round =>
    obtain ⟨k, hk, rfl, hy, hb⟩ := hrel
    by_cases hlt : k < n
    · obtain ⟨g, hg⟩ : ∃ g, gs[k]? = some g := ⟨_, List.getElem?_eq_getElem (by rw [unhide HN]; exact hlt)⟩
      obtain ⟨b, mo, mc, rfl, hDb, c0, c1', c2, c3, c4, o4, d4, l4⟩ := ((unhide HR).below hb).at hg
      obtain ⟨ao', ca', e, hfr, -⟩ := o4.slice
      cases e
      obtain ⟨W, hW⟩ : ∃ W, wr.alloc (.cells #[.int .i64 g.n, .int .i64 g.eng, .int .i64 g.base, .slice none 0 0, .slice mo g.ms.length mc] 26) = W := ⟨_, rfl⟩
      have bW : Below wr.heap.size wr W := by rw [← hW]; exact (Below.refl _ wr).alloc (Nat.le_refl _) _
      have xW : W.heap[wr.heap.size]? = some (.cells #[.int .i64 g.n, .int .i64 g.eng, .int .i64 g.base, .slice none 0 0, .slice mo g.ms.length mc] 26 (0, 0)) := by rw [← hW]; exact box_at _ _
      have CT := hide (setwin_any g none 0 0 mo g.ms.length mc rfl l4 W (hfr.1.below bW))
      have k0 : W.cell? ⟨wr.heap.size, 0, none⟩ = some (.int .i64 g.n) := (cell_of_block xW).trans rfl
      have k1 : W.cell? ⟨wr.heap.size, 1, none⟩ = some (.int .i64 g.eng) := (cell_of_block xW).trans rfl
      have k2 : W.cell? ⟨wr.heap.size, 2, none⟩ = some (.int .i64 g.base) := (cell_of_block xW).trans rfl
      have k3 : W.cell? ⟨wr.heap.size, 3, none⟩ = some (.slice none 0 0) := (cell_of_block xW).trans rfl
      have k4 : W.cell? ⟨wr.heap.size, 4, none⟩ = some (.slice mo g.ms.length mc) := (cell_of_block xW).trans rfl
      have q1 : (k : Int) < (n : Int) := by omega
      have HY := hide hy
      have HBW := hide (And.intro hb bW)
      have HG := hide (And.intro hg l4)
      have HW := hide hW
      clear hy hb hW xW bW hg o4 d4 l4 hfr hDb
      go_upto_region 5 with fail
      rw [unhide HW]
      go_wp2_with fail
      refine (unhide CT).mono ?_
      rintro e w2 ⟨c, rfl, o2, b2⟩
      have b3 := below_far (unhide HBW).2 b2
      have y2 := (unhide HY).below b3
      have hkl : k < gs.length := by rw [unhide HN]; exact hlt
      obtain ⟨u0, t0⟩ := y2.cell (q := k * 5) (by omega)
      obtain ⟨u1, t1⟩ := y2.cell (q := k * 5 + 1) (by omega)
      obtain ⟨u2, t2⟩ := y2.cell (q := k * 5 + 2) (by omega)
      obtain ⟨u3, t3⟩ := y2.cell (q := k * 5 + 3) (by omega)
      obtain ⟨u4, t4⟩ := y2.cell (q := k * 5 + 4) (by omega)
      have fz : ∀ q, w2.frozen? ⟨w.heap.size, q, none⟩ = false := fun q => y2.free q
      have Y2 := hide y2
      have O2 := hide (o2.more (Nat.le_trans (unhide HBW).1.size (unhide HBW).2.size))
      have B2 := hide ((unhide HBW).1.trans (b3.mono (unhide HBW).1.size))
      clear b2 b3 y2 o2 CT k0 k1 k2 k3 k4 c0 c1' c2 c3 c4 c1
      go_wp2
      go_roundw
      case rel =>
        obtain ⟨U, hU⟩ : ∃ U : World, U = (((((w2.setCell ⟨w.heap.size, k * 5, none⟩ (.int .i64 g.n)).setCell ⟨w.heap.size, k * 5 + 1, none⟩ (.int .i64 g.eng)).setCell ⟨w.heap.size, k * 5 + 2, none⟩ (.int .i64 g.base)).setCell ⟨w.heap.size, k * 5 + 3, none⟩ (.slice none 0 0)).setCell ⟨w.heap.size, k * 5 + 4, none⟩ (.slice (some ⟨c, 0, none⟩) g.ms.length g.ms.length)) := ⟨_, rfl⟩
        obtain ⟨yU, kU⟩ := (unhide Y2).put (unhide HG).1 (unhide O2) (unhide HG).2 hU
        refine ⟨k + 1, by omega, by go_num, ?_, ?_⟩
        · rw [← hU]; exact yU
        · rw [← hU, hU]
          exact (((((unhide B2).setCell (p := ⟨w.heap.size, k * 5, none⟩) (Nat.le_refl _) _).setCell (p := ⟨w.heap.size, k * 5 + 1, none⟩) (Nat.le_refl _) _).setCell (p := ⟨w.heap.size, k * 5 + 2, none⟩) (Nat.le_refl _) _).setCell (p := ⟨w.heap.size, k * 5 + 3, none⟩) (Nat.le_refl _) _).setCell (p := ⟨w.heap.size, k * 5 + 4, none⟩) (Nat.le_refl _) _
      case measure => simp [intOf]; omega
    · obtain rfl : k = n := by omega
      have HY := hide hy
      have HBW := hide hb
      clear hy hb
      go_wp2
      go_ret
      have hy := unhide HY
      rw [← unhide HN] at hy
      have hr := hy.row (Nat.le_refl _) (by rw [unhide HN]; exact hl)
      rw [unhide HN] at hr
      exact ⟨_, rfl, hr, unhide HBW⟩
end Go.Proofs.YtgllokinadjiaaaGreatDoor
namespace Go.Proofs.YtgllokinadjiaaaGreatDoor
open Go.RowKit Go.Maps

/-- one generation more. -/
theorem run_pushGn {D : Nat → Prop} {w : World} {v : Value} {gs : List Gn} (h : GRow D w v gs) (ty : TypeId) (nb : Nat) (g : Gn) (mv : Value) (hx : w.heap[nb]? = some (.cells (g.cells mv).toArray 26 (0, 0))) (hm : Ir 0 w mv g.ms) (hmd : ∀ k, mv.ownBlock = some k → D k) (hml : g.ms.length ≤ 1000000) (hl : gs.length ≤ 1000000) :
    ∃ v' w', (Builtin.append_ #[46, 46] ty #[v, .slice (some ⟨nb, 0, none⟩) 1 1]).run Tryz.prog w = .ok v' w' ∧ GRow (News D w w') w' v' (gs ++ [g]) ∧ w.grownBy w' v.ownBlock := by
  obtain ⟨i0, hi, hz0, hz1, hz2⟩ := info_parts Tryz.infoGn
  obtain ⟨xs, h1, h2, h3⟩ := h
  obtain ⟨v', w', hr, o', g', _, hat⟩ := run_append_own_at (P := Tryz.prog) w 0 46 ty 26 i0 _ 5 72 Tryz.underlying46 hi hz0 hz1 hz2 rfl (by decide) v gs.length xs h1 ⟨nb, 0, none⟩ 1 1 (g.cells mv) rfl
    (fun j u hj => by rw [Addr.add_lit, Nat.zero_add, cell_of_block hx]; simpa using hj) (Gn.cells_one g hm.oneCell) (by unfold maxLen; omega) (by omega) (Nat.zero_le _)
  refine ⟨v', w', hr, ⟨_, by rw [List.length_append]; exact o', fun k hk => ?_, fun i q hq => ?_⟩, g'⟩
  · rcases hat with e | e
    · exact Or.inl (h2 k (e ▸ hk))
    · rw [e] at hk; cases hk
      exact Or.inr ⟨Nat.le_refl _, (o'.lt _ e).2⟩
  · have hxl : xs.length = gs.length * 5 := h1.1
    by_cases e : i < gs.length
    · rw [List.getElem?_append_left e] at hq
      obtain ⟨u, u1, u2, u3, u4⟩ := h3 i q hq
      refine ⟨u, fun j c hj => ?_, u2.grow h1 (by decide) g', fun k hk => Or.inl (u3 k hk), u4⟩
      have hj5 : j < 5 := (List.getElem?_eq_some_iff.1 hj).1
      rw [List.getElem?_append_left (by omega)]; exact u1 j c hj
    · rw [List.getElem?_append_right (by omega)] at hq
      have hi0 : i = gs.length := by have := (List.getElem?_eq_some_iff.1 hq).1; simp at this; omega
      subst hi0
      simp at hq
      subst hq
      refine ⟨mv, fun j c hj => ?_, hm.grow h1 (by decide) g', fun k hk => Or.inl (hmd k hk), hml⟩
      rw [List.getElem?_append_right (by omega), show gs.length * 5 + j - xs.length = j by omega]; exact hj
theorem wp_pushGn {w : World} {o : Oper} {a : Act} {K : Act → World → Prop} {Q : Exit → Act → World → Prop} (s x : Operand)
    (ho : o.op = .call { callee := .builtin .append, args := #[s, x], argTypes := #[46, 46] }) (D : Nat → Prop) (v : Value) (gs : List Gn) (hs : a.eval s = v) (h : GRow D w v gs)
    (nb : Nat) (g : Gn) (mv : Value) (hx : a.eval x = .slice (some ⟨nb, 0, none⟩) 1 1) (hc : w.heap[nb]? = some (.cells (g.cells mv).toArray 26 (0, 0))) (hm : Ir 0 w mv g.ms) (hmd : ∀ k, mv.ownBlock = some k → D k) (hml : g.ms.length ≤ 1000000) (hl : gs.length ≤ 1000000)
    (hk : ∀ v' w', GRow (News D w w') w' v' (gs ++ [g]) → w.grownBy w' v.ownBlock → K (a.put o.dst v') w') : Oper.wp Tryz.prog o a w K Q := by
  obtain ⟨v', w', hr, h1, h2⟩ := run_pushGn h o.type nb g mv hc hm hmd hml hl
  unfold Oper.wp execOp
  simp only [ho, resolve, invoke, builtin, Sem.run_bind, Sem.run_pure, Result.andThen_ok, List.map_toArray, List.map_cons, List.map_nil, hs, hx, hr]
  exact hk v' w' h1 h2
theorem step_on {w : World} {ops : Array Oper} {o : Oper} {a : Act} {K : Act → World → Prop} {Q : Exit → Act → World → Prop} {E : Prop} (hg : o.guard = none) (h : Oper.wp Tryz.prog o a w K Q) :
    if Region.wanted o (yielded ops a.tmps) = true then Oper.wp Tryz.prog o a w K Q else E := by
  have hw : Region.wanted o (yielded ops a.tmps) = true := by simp [Region.wanted, hg]
  rw [if_pos hw]; exact h
theorem step_app {w : World} {ops : Array Oper} {o : Oper} {a : Act} {K : Act → World → Prop} {Q : Exit → Act → World → Prop} {E : Prop} (s x : Operand) (_ho : o.op = .call { callee := .builtin .append, args := #[s, x], argTypes := #[46, 46] }) (hg : o.guard = none) (h : Oper.wp Tryz.prog o a w K Q) :
    if Region.wanted o (yielded ops a.tmps) = true then Oper.wp Tryz.prog o a w K Q else E := step_on hg h
theorem step_twin {w : World} {ops : Array Oper} {o : Oper} {a : Act} {K : Act → World → Prop} {Q : Exit → Act → World → Prop} {E : Prop} (x : Operand)
    (ho : o.op = .call { callee := .value (.func 36), args := #[x], argTypes := #[26] }) (hg : o.guard = none) (g : Gn) (xo : Option Addr) (xn xc : Nat) (mo : Option Addr) (m cap : Nat) (hx : a.eval x = .agg #[.int .i64 g.n, .int .i64 g.eng, .int .i64 g.base, .slice xo xn xc, .slice mo m cap]) (hn : g.ms.length = m) (hb : IntsR w mo g.ms) (hl : m ≤ 1000000)
    (h : ∀ b w', Ir w.heap.size w' (.slice (some ⟨b, 0, none⟩) m m) g.ms → Below w.heap.size w w' → K (a.put o.dst (.agg #[.int .i64 g.n, .int .i64 g.eng, .int .i64 g.base, .slice none 0 0, .slice (some ⟨b, 0, none⟩) m m])) w') :
    if Region.wanted o (yielded ops a.tmps) = true then Oper.wp Tryz.prog o a w K Q else E := by
  refine step_on hg ?_
  have e1 : (execOp a.eval o).run Tryz.prog w = .ok (.enter 36 #[.agg #[.int .i64 g.n, .int .i64 g.eng, .int .i64 g.base, .slice xo xn xc, .slice mo m cap]]) w := by
    unfold execOp
    simp only [ho, resolve, invoke, Sem.run_bind, List.map_toArray, List.map_cons, List.map_nil, hx]
    simp [Act.eval, Deferred.ofValue, Result.andThen]
  unfold Oper.wp
  rw [e1, Oper.upon_enter]
  refine (setwin_any g xo xn xc mo m cap hn hl w hb).mono ?_
  rintro x' w' ⟨b, rfl, h1, h2⟩
  exact h b w' h1 h2
/-- numbers in rows are not touched by a store into the box of the generations. -/
theorem GRow.other {D : Nat → Prop} {y W : World} {p : Nat} {v : Value} {gs : List Gn} (h : GRow D y v gs) (hk : ∀ k, k ≠ p → W.heap[k]? = y.heap[k]?) {cs : Array Value} {fr : Nat × Nat} (hp : y.heap[p]? = some (.cells cs 73 fr)) : GRow D W v gs := by
  obtain ⟨xs, h1, h2, h3⟩ := h
  refine ⟨xs, own_kept h1 fun k e => hk k (fun x => ?_), h2, fun i r hi => ?_⟩
  · subst x
    obtain ⟨_, cur, fr', hc⟩ := own_tag h1 k e
    rw [hp] at hc; cases hc
  · obtain ⟨mv, k1, k2, k3, k4⟩ := h3 i r hi
    exact ⟨mv, k1, k2.other hk hp (by decide), k3, k4⟩
theorem add_fin {D : Nat → Prop} {w w5 : World} {p : Nat} {rv v : Value} {gs : List Gn} (hk : Kp D w w5) (hp : D p) (hl : ∀ k, D k → k < w.heap.size) (hb : w5.heap[p]? = some (.cells #[rv] 73 (0, 0))) (hr : GRow (News D w w5) w5 v gs) :
    Gs (News D w (w5.setCell ⟨p, 0, none⟩ v)) (w5.setCell ⟨p, 0, none⟩ v) p gs ∧ Kp D w (w5.setCell ⟨p, 0, none⟩ v) := by
  have hs : (w5.setCell ⟨p, 0, none⟩ v).heap.size = w5.heap.size := by simp [World.setCell]
  refine ⟨⟨⟨v, setCell_block hb, ?_⟩, Or.inl hp, fun k hk' => ?_⟩, hk.setCell (p := ⟨p, 0, none⟩) hp v⟩
  · refine (hr.other (fun k hk => Below.heap_setCell _ _ _ k hk) hb).mono (fun k x => ?_)
    rcases x with x | x
    · exact Or.inl x
    · exact Or.inr ⟨x.1, by rw [hs]; exact x.2⟩
  · rcases hk' with x | x
    · rw [hs]; exact Nat.lt_of_lt_of_le (hl k x) hk.size
    · exact x.2

set_option maxRecDepth 20000 in
set_option maxHeartbeats 2000000 in
theorem add_no {D : Nat → Prop} {w : World} {p : Nat} {gs : List Gn} (h : Gs D w p gs) (hl : gs.length ≤ 1000000) (n e b : Int) (xo mo : Option Addr) (xn xc m mc : Nat) (old new : List Int) (hno : old.length = xn) (hnn : new.length = m) (hlo : xn ≤ 1000000000) (hln : m ≤ 1000000000) (ho : IntsR w xo old) (hw : IntsR w mo new) (hn0 : wrongG gs n e b old new ≠ 0) :
    Calls Tryz.prog 33 #[.pointer (some ⟨p, 0, none⟩), .agg #[.int .i64 n, .int .i64 e, .int .i64 b, .slice xo xn xc, .slice mo m mc]] w fun x w' => ∃ q, x = .returned (refV q) ∧ Ref w' q (wrongG gs n e b old new) ∧ Below w.heap.size w w' := by
  obtain ⟨W, hW, bW, xW⟩ := boxG w n e b xo mo xn xc m mc
  have CW := hide (wrong_gn (h.below bW) hl n e b xo mo xn xc m mc old new hno hnn hlo hln (ho.below bW) (hw.below bW))
  obtain ⟨r, hr⟩ : ∃ r, wrongG gs n e b old new = r := ⟨_, rfl⟩
  rw [hr] at CW hn0 ⊢
  have q : (r == 0) = false := by simp [hn0]
  have k0 : W.cell? ⟨w.heap.size, 0, none⟩ = some (.int .i64 n) := (cell_of_block xW).trans rfl
  have k1 : W.cell? ⟨w.heap.size, 1, none⟩ = some (.int .i64 e) := (cell_of_block xW).trans rfl
  have k2 : W.cell? ⟨w.heap.size, 2, none⟩ = some (.int .i64 b) := (cell_of_block xW).trans rfl
  have k3 : W.cell? ⟨w.heap.size, 3, none⟩ = some (.slice xo xn xc) := (cell_of_block xW).trans rfl
  have k4 : W.cell? ⟨w.heap.size, 4, none⟩ = some (.slice mo m mc) := (cell_of_block xW).trans rfl
  have XW := hide xW
  have HW := hide hW
  have BW := hide bW
  clear hr hn0 h hno hnn ho hw hW bW xW hlo hln hl
  go_enter Tryz.func33, Tryz.ntmps33
  go_upto_region 1 with fail
  rw [unhide HW]
  go_wp2_with fail
  refine (unhide CW).mono ?_
  clear k0 k1 k2 k3 k4
  rintro x w1 ⟨rfl, b1⟩
  have k0 : w1.cell? ⟨w.heap.size, 0, none⟩ = some (.int .i64 n) := (cell_of_block (Below.stay b1 (unhide XW))).trans rfl
  have B1 := hide (below_far (unhide BW) b1)
  clear b1
  go_wp2
  go_ret
  exact ⟨_, rfl, Ref.new _ _ _ rfl, (unhide B1).alloc (unhide B1).size _⟩

set_option maxRecDepth 20000 in
set_option maxHeartbeats 4000000 in
theorem add_ok {D : Nat → Prop} {w : World} {p : Nat} {gs : List Gn} (h : Gs D w p gs) (hl : gs.length ≤ 1000000) (g : Gn) (xo mo : Option Addr) (xn xc m mc : Nat) (old : List Int) (hno : old.length = xn) (hnn : g.ms.length = m) (hlo : xn ≤ 1000000000) (hln : m ≤ 1000000) (ho : IntsR w xo old) (hw : IntsR w mo g.ms) (hn0 : wrongG gs g.n g.eng g.base old g.ms = 0) :
    Calls Tryz.prog 33 #[.pointer (some ⟨p, 0, none⟩), .agg #[.int .i64 g.n, .int .i64 g.eng, .int .i64 g.base, .slice xo xn xc, .slice mo m mc]] w fun x w' => x = .returned .nilIface ∧ Gs (News D w w') w' p (gs ++ [g]) ∧ Kp D w w' := by
  obtain ⟨V, hV, bV, xV⟩ := boxG w g.n g.eng g.base xo mo xn xc m mc
  have CW := wrong_gn (h.below bV) hl g.n g.eng g.base xo mo xn xc m mc old g.ms hno hnn hlo (by omega) (ho.below bV) (hw.below bV)
  rw [hn0] at CW
  have CW' := hide CW
  obtain ⟨⟨rv, hbx, hrr⟩, hDp, hlt⟩ := h
  obtain ⟨ao, ca, rfl, -⟩ := hrr.slice
  have XV := hide xV
  have HV := hide hV
  have BV := hide bV
  have HBX := hide hbx
  have HR := hide hrr
  have HP := hide hDp
  have HL := hide hlt
  have HI := hide hw
  have HN := hide hnn
  have k0 : V.cell? ⟨w.heap.size, 0, none⟩ = some (.int .i64 g.n) := (cell_of_block xV).trans rfl
  have k1 : V.cell? ⟨w.heap.size, 1, none⟩ = some (.int .i64 g.eng) := (cell_of_block xV).trans rfl
  have k2 : V.cell? ⟨w.heap.size, 2, none⟩ = some (.int .i64 g.base) := (cell_of_block xV).trans rfl
  have k3 : V.cell? ⟨w.heap.size, 3, none⟩ = some (.slice xo xn xc) := (cell_of_block xV).trans rfl
  have k4 : V.cell? ⟨w.heap.size, 4, none⟩ = some (.slice mo m mc) := (cell_of_block xV).trans rfl
  clear CW hbx hrr hDp hlt hV bV xV hno hlo ho hw hn0 hnn
  go_enter Tryz.func33, Tryz.ntmps33
  go_upto_region 1 with fail
  rw [unhide HV]
  go_wp2_with fail
  refine (unhide CW').mono ?_
  clear k0 k1 k2 k3 k4
  rintro x W ⟨rfl, b1⟩
  have bW := below_far (unhide BV) b1
  have xW := Below.stay b1 (unhide XV)
  have pW := Below.stay bW (unhide HBX)
  have c0 : W.drew.cell? ⟨p, 0, none⟩ = some (.slice ao gs.length ca) := (cell_of_block (w := W.drew) pW).trans rfl
  have k0 : W.drew.cell? ⟨w.heap.size, 0, none⟩ = some (.int .i64 g.n) := (cell_of_block (w := W.drew) xW).trans rfl
  have k1 : W.drew.cell? ⟨w.heap.size, 1, none⟩ = some (.int .i64 g.eng) := (cell_of_block (w := W.drew) xW).trans rfl
  have k2 : W.drew.cell? ⟨w.heap.size, 2, none⟩ = some (.int .i64 g.base) := (cell_of_block (w := W.drew) xW).trans rfl
  have k3 : W.drew.cell? ⟨w.heap.size, 3, none⟩ = some (.slice xo xn xc) := (cell_of_block (w := W.drew) xW).trans rfl
  have k4 : W.drew.cell? ⟨w.heap.size, 4, none⟩ = some (.slice mo m mc) := (cell_of_block (w := W.drew) xW).trans rfl
  have PW := hide pW
  have HB := hide ((unhide HI).below bW)
  have BW := hide bW
  have XW := hide xW
  clear pW xW bW b1 CW' HV XV BV
  go_upto_region 4 with fail
  go_region_law (first
    | (refine step_twin (.tmp 23) rfl rfl g xo xn xc mo m mc rfl (unhide HN) (IntsR.below (unhide HB) ((Below.refl _ W).drew)) hln ?_
       intro q w2 o2 b2
       have b3 : Below W.heap.size W w2 := ((Below.refl _ W).drew).trans b2
       have o3 : Ir 0 w2 (.slice (some ⟨q, 0, none⟩) m m) g.ms := o2.more (Nat.zero_le _)
       have O2 := hide o2
       have O3 := hide o3
       have B2 := hide b3
       have c2 : w2.cell? ⟨p, 0, none⟩ = some (.slice ao gs.length ca) := (cell_of_block (Below.stay b3 (unhide PW))).trans rfl
       have A3 := hide (fun o => (Below.refl w2.heap.size w2).alloc (Nat.le_refl _) o)
       have P3 := hide (fun o => Below.stay (unhide A3 o) (Below.stay b3 (unhide PW)))
       have cA : (w2.alloc (.cells #[.int .i64 g.n, .int .i64 g.eng, .int .i64 g.base, .slice none 0 0, .slice (some ⟨q, 0, none⟩) m m] 26)).cell? ⟨p, 0, none⟩ = some (.slice ao gs.length ca) := (cell_of_block (unhide P3 _)).trans rfl
       have R3 := hide (fun o => (((unhide HR).kp (E := fun _ => False) (Kp.of_below (below_far (below_far (unhide BW) b3) (unhide A3 o))) (fun _ _ x => x)).mono (E := News D w (w2.alloc o)) (fun _ x => Or.inl x)))
       have M3 := hide (fun o => Ir.below o3 (unhide A3 o))
       have D3 : Hid (∀ o k, (Value.slice (some ⟨q, 0, none⟩) m m).ownBlock = some k → News D w (w2.alloc o) k) := fun o k hk => Or.inr ⟨Nat.le_trans (unhide BW).size (o2.lt k hk).1, Nat.lt_of_lt_of_le (o2.lt k hk).2 (unhide A3 o).size⟩
       clear b2 b3 o2 o3)
    | (refine step_app (.tmp 22) (.tmp 25) rfl rfl ?_
       refine wp_pushGn (.tmp 22) (.tmp 25) rfl _ (.slice ao gs.length ca) gs rfl (unhide R3 _) w2.heap.size g (.slice (some ⟨q, 0, none⟩) m m) rfl (box_at w2 _) (unhide M3 _) (unhide D3 _) (by rw [unhide HN]; exact hln) hl ?_
       intro v5 w5 y5 g5
       obtain ⟨ao5, cap5, rfl, -⟩ := y5.slice
       have p5 : w5.heap[p]? = some (.cells #[.slice ao gs.length ca] 73 (0, 0)) := (g5.block p (heap_lt (unhide P3 _)) (fun x => by
         obtain ⟨-, cur, fr, hc⟩ := (unhide R3 (.cells #[.int .i64 g.n, .int .i64 g.eng, .int .i64 g.base, .slice none 0 0, .slice (some ⟨q, 0, none⟩) m m] 26)).tag p x.symm
         have hq := unhide P3 (.cells #[.int .i64 g.n, .int .i64 g.eng, .int .i64 g.base, .slice none 0 0, .slice (some ⟨q, 0, none⟩) m m] 26)
         rw [hc] at hq; cases hq)).trans (unhide P3 _)
       have c5 : w5.cell? ⟨p, 0, none⟩ = some (.slice ao gs.length ca) := (cell_of_block p5).trans rfl
       have f5 : w5.frozen? ⟨p, 0, none⟩ = false := free_of_block p5
       have Y5 := hide y5
       have G5 := hide g5
       have P5 := hide p5
       clear y5 g5 p5))
  all_goals
    have bA := below_far (below_far (unhide BW) (unhide B2)) (unhide A3 (.cells #[.int .i64 g.n, .int .i64 g.eng, .int .i64 g.base, .slice none 0 0, .slice (some ⟨q, 0, none⟩) m m] 26))
    have k5 : Kp D w w5 := (Kp.of_below bA).grown (unhide G5) (fun k hk hx => by
      rcases ((unhide R3 (.cells #[.int .i64 g.n, .int .i64 g.eng, .int .i64 g.base, .slice none 0 0, .slice (some ⟨q, 0, none⟩) m m] 26)).tag k hx).1 with h | h
      · exact h
      · omega)
    have s5 : (w2.alloc (.cells #[.int .i64 g.n, .int .i64 g.eng, .int .i64 g.base, .slice none 0 0, .slice (some ⟨q, 0, none⟩) m m] 26)).heap.size ≤ w5.heap.size := (unhide G5).size
    have r5 : GRow (News D w w5) w5 (.slice ao5 (gs ++ [g]).length cap5) (gs ++ [g]) := (unhide Y5).mono (fun k hk => News.sub bA.size s5 hk)
    rw [show (gs ++ [g]).length = gs.length + 1 by simp] at r5
    have FIN := hide (add_fin k5 (unhide HP) (unhide HL) (unhide P5) r5)
    clear bA k5 s5 r5
  all_goals go_wp2
  all_goals go_ret
  all_goals exact ⟨rfl, (unhide FIN).1, (unhide FIN).2⟩
end Go.Proofs.YtgllokinadjiaaaGreatDoor
namespace Go.Proofs.YtgllokinadjiaaaGreatDoor
open Go.RowKit Go.Maps

def set5W (y : World) (B : Nat) (v0 v1 v2 v3 v4 : Value) : World := ((((y.setCell ⟨B, 0, none⟩ v0).setCell ⟨B, 1, none⟩ v1).setCell ⟨B, 2, none⟩ v2).setCell ⟨B, 3, none⟩ v3).setCell ⟨B, 4, none⟩ v4
set_option maxRecDepth 20000 in
theorem step_set5 {w : World} {ops : Array Oper} {o : Oper} {a : Act} {K : Act → World → Prop} {Q : Exit → Act → World → Prop} {E : Prop} (p x : Operand) (ho : o.op = .store 26 p x) (hg : o.guard = none) (hd : o.dst = none) (B : Nat) (hp : a.eval p = .pointer (some ⟨B, 0, none⟩))
    (n e b : Int) (xo mo : Option Addr) (xn xc m mc : Nat) (hx : a.eval x = .agg #[.int .i64 n, .int .i64 e, .int .i64 b, .slice xo xn xc, .slice mo m mc]) {z0 z1 z2 z3 z4 : Value} {t : TypeId} (hb : w.heap[B]? = some (.cells #[z0, z1, z2, z3, z4] t (0, 0)))
    (h : K a (set5W w B (.int .i64 n) (.int .i64 e) (.int .i64 b) (.slice xo xn xc) (.slice mo m mc))) :
    if Region.wanted o (yielded ops a.tmps) = true then Oper.wp Tryz.prog o a w K Q else E := by
  refine step_on hg ?_
  have b0 := setCell_block (i := 0) (u := .int .i64 n) hb
  have b1 := setCell_block (i := 1) (u := .int .i64 e) b0
  have b2 := setCell_block (i := 2) (u := .int .i64 b) b1
  have b3 := setCell_block (i := 3) (u := .slice xo xn xc) b2
  have c0 : w.cell? ⟨B, 0, none⟩ = some z0 := (cell_of_block hb).trans rfl
  have c1 : (w.setCell ⟨B, 0, none⟩ (.int .i64 n)).cell? ⟨B, 1, none⟩ = some z1 := (cell_of_block b0).trans rfl
  have c2 : ((w.setCell ⟨B, 0, none⟩ (.int .i64 n)).setCell ⟨B, 1, none⟩ (.int .i64 e)).cell? ⟨B, 2, none⟩ = some z2 := (cell_of_block b1).trans rfl
  have c3 : (((w.setCell ⟨B, 0, none⟩ (.int .i64 n)).setCell ⟨B, 1, none⟩ (.int .i64 e)).setCell ⟨B, 2, none⟩ (.int .i64 b)).cell? ⟨B, 3, none⟩ = some z3 := (cell_of_block b2).trans rfl
  have c4 : ((((w.setCell ⟨B, 0, none⟩ (.int .i64 n)).setCell ⟨B, 1, none⟩ (.int .i64 e)).setCell ⟨B, 2, none⟩ (.int .i64 b)).setCell ⟨B, 3, none⟩ (.slice xo xn xc)).cell? ⟨B, 4, none⟩ = some z4 := (cell_of_block b3).trans rfl
  have f0 : w.frozen? ⟨B, 0, none⟩ = false := free_of_block hb
  have f1 : (w.setCell ⟨B, 0, none⟩ (.int .i64 n)).frozen? ⟨B, 1, none⟩ = false := free_of_block b0
  have f2 : ((w.setCell ⟨B, 0, none⟩ (.int .i64 n)).setCell ⟨B, 1, none⟩ (.int .i64 e)).frozen? ⟨B, 2, none⟩ = false := free_of_block b1
  have f3 : (((w.setCell ⟨B, 0, none⟩ (.int .i64 n)).setCell ⟨B, 1, none⟩ (.int .i64 e)).setCell ⟨B, 2, none⟩ (.int .i64 b)).frozen? ⟨B, 3, none⟩ = false := free_of_block b2
  have f4 : ((((w.setCell ⟨B, 0, none⟩ (.int .i64 n)).setCell ⟨B, 1, none⟩ (.int .i64 e)).setCell ⟨B, 2, none⟩ (.int .i64 b)).setCell ⟨B, 3, none⟩ (.slice xo xn xc)).frozen? ⟨B, 4, none⟩ = false := free_of_block b3
  unfold set5W at h
  unfold Oper.wp execOp
  simp only [ho, hp, hx]
  simp [go_sem, c0, c1, c2, c3, c4, f0, f1, f2, f3, f4, hd]
  exact h
/-- a call that answers a number, and changes nothing. -/
theorem step_int {w : World} {ops : Array Oper} {o : Oper} {a : Act} {K : Act → World → Prop} {Q : Exit → Act → World → Prop} {E : Prop} (x : Operand) (i : Int)
    (ho : o.op = .call { callee := .value (.func 74), args := #[x, .const (.int .i64 i)], argTypes := #[53, 3] }) (hg : o.guard = none) (s : Value) (hx : a.eval x = s) (r : Int)
    (hc : Calls Tryz.prog 74 #[s, .int .i64 i] w fun e w' => e = .returned (.int .i64 r) ∧ w' = w) (h : K (a.put o.dst (.int .i64 r)) w) :
    if Region.wanted o (yielded ops a.tmps) = true then Oper.wp Tryz.prog o a w K Q else E := by
  refine step_on hg ?_
  have e1 : (execOp a.eval o).run Tryz.prog w = .ok (.enter 74 #[s, .int .i64 i]) w := by
    unfold execOp
    simp only [ho, resolve, invoke, Sem.run_bind, List.map_toArray, List.map_cons, List.map_nil, hx]
    simp [Act.eval, Deferred.ofValue, Result.andThen]
  unfold Oper.wp
  rw [e1, Oper.upon_enter]
  refine hc.mono ?_
  rintro e w' ⟨rfl, rfl⟩
  exact h
end Go.Proofs.YtgllokinadjiaaaGreatDoor

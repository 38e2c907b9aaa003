/- seal: wrong: a contract. -/
import Derived.Test.YtgllokinadjiaaaSAdd
namespace Go.Proofs.Ytgllokinadjiaaa
open Go.RowKit Go.Maps

/-- why a generation may not be the next one: of what is asked, in this order. -/
def wrongB (f g : Bool) (c : Nat) (j k : Bool) : Int := if f = false ∨ g = false then 1 else if c ≠ 0 then (c : Int) else if j = true then 1 else if k = true then 4 else 0
def wrongG (gs : List Gn) (n e b : Int) (old new : List Int) : Int := wrongB (followsOf gs n b) (decide (e = 1 ∨ e = 2)) (checkOf old new) (decide (0 < old.length)) (decide (60 ≤ gs.length))
set_option maxRecDepth 20000 in
set_option maxHeartbeats 2000000 in
theorem wrong_gn {D : Nat → Prop} {w : World} {p : Nat} {gs : List Gn} (h : Gs D w p gs) (hl : gs.length ≤ 1000000) (n e b : Int) (xo mo : Option Addr) (xn xc m mc : Nat) (old new : List Int) (hno : old.length = xn) (hnn : new.length = m) (hlo : xn ≤ 1000000000) (hln : m ≤ 1000000000) (ho : IntsR w xo old) (hw : IntsR w mo new) :
    Calls Try.prog 27 #[.pointer (some ⟨p, 0, none⟩), .agg #[.int .i64 n, .int .i64 e, .int .i64 b, .slice xo xn xc, .slice mo m mc]] w fun x w' => x = .returned (.int .i64 (wrongG gs n e b old new)) ∧ Below w.heap.size w w' := by
  obtain ⟨W, hW, bW, xW⟩ := boxG w n e b xo mo xn xc m mc
  have CF := hide (follows_any (h.below bW) hl n e b xo mo xn xc m mc)
  have CG := hide (fun (Y : World) => (isEngine_any e Y).mono (R' := fun x w' => x = .returned (.bool (decide (e = 1 ∨ e = 2))) ∧ Below Y.heap.size Y w') (by rintro x w' ⟨rfl, rfl⟩; exact ⟨rfl, Below.refl _ _⟩))
  have CC := hide (fun (Y : World) (hY : Below w.heap.size w Y) => check_any xo mo xn m xc mc old new hno hnn hlo hln Y (ho.below hY) (hw.below hY))
  have CJ := hide (fun (Y : World) => joint_any (.slice xo xn xc) (.slice mo m mc) xo xn xc rfl Y)
  obtain ⟨⟨rv, hbx, hrr⟩, hDp, hlt⟩ := h
  obtain ⟨ao, ca, rfl, -⟩ := hrr.slice
  obtain ⟨N, hN⟩ : ∃ N, gs.length = N := ⟨_, rfl⟩
  rw [hN] at hbx
  have XC : Hid (∀ Y, Below W.heap.size W Y → (Y.cell? ⟨w.heap.size, 0, none⟩ = some (.int .i64 n) ∧ Y.cell? ⟨w.heap.size, 1, none⟩ = some (.int .i64 e) ∧ Y.cell? ⟨w.heap.size, 2, none⟩ = some (.int .i64 b) ∧ Y.cell? ⟨w.heap.size, 3, none⟩ = some (.slice xo xn xc) ∧ Y.cell? ⟨w.heap.size, 4, none⟩ = some (.slice mo m mc)) ∧ Y.cell? ⟨p, 0, none⟩ = some (.slice ao N ca)) := hide (fun Y hY =>
    have x := Below.stay hY xW
    ⟨⟨(cell_of_block x).trans rfl, (cell_of_block x).trans rfl, (cell_of_block x).trans rfl, (cell_of_block x).trans rfl, (cell_of_block x).trans rfl⟩, (cell_of_block (Below.stay hY (Below.stay bW hbx))).trans rfl⟩)
  have HW := hide hW
  have BW := hide bW
  have HR : Hid (wrongG gs n e b old new = wrongB (followsOf gs n b) (decide (e = 1 ∨ e = 2)) (checkOf old new) (decide (0 < xn)) (decide (60 ≤ N))) := hide (by unfold wrongG; rw [hno, hN])
  rw [unhide HR]
  obtain ⟨f, hf⟩ : ∃ f, followsOf gs n b = f := ⟨_, rfl⟩
  obtain ⟨g, hg⟩ : ∃ g, decide (e = 1 ∨ e = 2) = g := ⟨_, rfl⟩
  obtain ⟨c, hc⟩ : ∃ c, checkOf old new = c := ⟨_, rfl⟩
  obtain ⟨j, hj⟩ : ∃ j, decide (0 < xn) = j := ⟨_, rfl⟩
  rw [hf] at CF ⊢
  rw [hg] at CG ⊢
  rw [hc] at CC ⊢
  rw [hj] at CJ ⊢
  have hNl : N ≤ 1000000 := by omega
  clear hf hg hc hj hbx hrr hDp hlt hW bW xW HR hN hno hnn hlo hln ho hw hl
  cases f with
  | false =>
    rw [show wrongB false g c j (decide (60 ≤ N)) = 1 from rfl]
    go_enter Try.func27, Try.ntmps27
    go_upto_region 1 with fail
    rw [unhide HW]
    obtain ⟨⟨k0, k1, k2, k3, k4⟩, kp⟩ := unhide XC _ (Below.refl _ W)
    go_wp2_with fail
    refine (unhide CF).mono ?_
    clear k0 k1 k2 k3 k4 kp
    rintro x w1 ⟨rfl, b1⟩
    have B1 := hide b1
    clear b1
    obtain ⟨⟨k0, k1, k2, k3, k4⟩, kp⟩ := unhide XC _ (unhide B1)
    go_wp2
    go_ret
    exact ⟨rfl, below_far (unhide BW) (unhide B1)⟩
  | true =>
    cases g with
    | false =>
      rw [show wrongB true false c j (decide (60 ≤ N)) = 1 from rfl]
      go_enter Try.func27, Try.ntmps27
      go_upto_region 1 with fail
      rw [unhide HW]
      obtain ⟨⟨k0, k1, k2, k3, k4⟩, kp⟩ := unhide XC _ (Below.refl _ W)
      go_wp2_with fail
      refine (unhide CF).mono ?_
      clear k0 k1 k2 k3 k4 kp
      rintro x w1 ⟨rfl, b1⟩
      have B1 := hide b1
      clear b1
      obtain ⟨⟨k0, k1, k2, k3, k4⟩, kp⟩ := unhide XC _ (unhide B1)
      have C2 := hide (unhide CG w1)
      go_wp2_with fail
      refine (unhide C2).mono ?_
      clear k0 k1 k2 k3 k4 kp
      rintro x w2 ⟨rfl, b2⟩
      have B2 := hide (below_far (unhide B1) b2)
      clear b2
      obtain ⟨⟨k0, k1, k2, k3, k4⟩, kp⟩ := unhide XC _ (unhide B2)
      go_wp2
      go_ret
      exact ⟨rfl, below_far (unhide BW) (unhide B2)⟩
    | true =>
      by_cases hc0 : c = 0
      · subst hc0
        cases j with
        | true =>
          rw [show wrongB true true 0 true (decide (60 ≤ N)) = 1 from rfl]
          go_enter Try.func27, Try.ntmps27
          go_upto_region 1 with fail
          rw [unhide HW]
          obtain ⟨⟨k0, k1, k2, k3, k4⟩, kp⟩ := unhide XC _ (Below.refl _ W)
          go_wp2_with fail
          refine (unhide CF).mono ?_
          clear k0 k1 k2 k3 k4 kp
          rintro x w1 ⟨rfl, b1⟩
          have B1 := hide b1
          clear b1
          obtain ⟨⟨k0, k1, k2, k3, k4⟩, kp⟩ := unhide XC _ (unhide B1)
          have C2 := hide (unhide CG w1)
          go_wp2_with fail
          refine (unhide C2).mono ?_
          clear k0 k1 k2 k3 k4 kp
          rintro x w2 ⟨rfl, b2⟩
          have B2 := hide (below_far (unhide B1) b2)
          clear b2
          obtain ⟨⟨k0, k1, k2, k3, k4⟩, kp⟩ := unhide XC _ (unhide B2)
          have C3 := hide (unhide CC w2 (below_far (unhide BW) (unhide B2)))
          go_wp2_with fail
          refine (unhide C3).mono ?_
          clear k0 k1 k2 k3 k4 kp
          rintro x w3 ⟨rfl, b3⟩
          have B3 := hide (below_far (unhide B2) b3)
          clear b3
          obtain ⟨⟨k0, k1, k2, k3, k4⟩, kp⟩ := unhide XC _ (unhide B3)
          have C4 := hide (unhide CJ w3)
          go_wp2_with fail
          refine (unhide C4).mono ?_
          clear k0 k1 k2 k3 k4 kp
          rintro x w4 ⟨rfl, b4⟩
          have B4 := hide (below_far (unhide B3) b4)
          clear b4
          obtain ⟨⟨k0, k1, k2, k3, k4⟩, kp⟩ := unhide XC _ (unhide B4)
          go_wp2
          go_ret
          exact ⟨rfl, below_far (unhide BW) (unhide B4)⟩
        | false =>
          by_cases h60 : 60 ≤ N
          · rw [decide_eq_true h60, show wrongB true true 0 false true = 4 from rfl]
            have q6 : (60 : Int) ≤ (N : Int) := by omega
            go_enter Try.func27, Try.ntmps27
            go_upto_region 1 with fail
            rw [unhide HW]
            obtain ⟨⟨k0, k1, k2, k3, k4⟩, kp⟩ := unhide XC _ (Below.refl _ W)
            go_wp2_with fail
            refine (unhide CF).mono ?_
            clear k0 k1 k2 k3 k4 kp
            rintro x w1 ⟨rfl, b1⟩
            have B1 := hide b1
            clear b1
            obtain ⟨⟨k0, k1, k2, k3, k4⟩, kp⟩ := unhide XC _ (unhide B1)
            have C2 := hide (unhide CG w1)
            go_wp2_with fail
            refine (unhide C2).mono ?_
            clear k0 k1 k2 k3 k4 kp
            rintro x w2 ⟨rfl, b2⟩
            have B2 := hide (below_far (unhide B1) b2)
            clear b2
            obtain ⟨⟨k0, k1, k2, k3, k4⟩, kp⟩ := unhide XC _ (unhide B2)
            have C3 := hide (unhide CC w2 (below_far (unhide BW) (unhide B2)))
            go_wp2_with fail
            refine (unhide C3).mono ?_
            clear k0 k1 k2 k3 k4 kp
            rintro x w3 ⟨rfl, b3⟩
            have B3 := hide (below_far (unhide B2) b3)
            clear b3
            obtain ⟨⟨k0, k1, k2, k3, k4⟩, kp⟩ := unhide XC _ (unhide B3)
            have C4 := hide (unhide CJ w3)
            go_wp2_with fail
            refine (unhide C4).mono ?_
            clear k0 k1 k2 k3 k4 kp
            rintro x w4 ⟨rfl, b4⟩
            have B4 := hide (below_far (unhide B3) b4)
            clear b4
            obtain ⟨⟨k0, k1, k2, k3, k4⟩, kp⟩ := unhide XC _ (unhide B4)
            go_wp2
            go_ret
            exact ⟨rfl, below_far (unhide BW) (unhide B4)⟩
          · rw [decide_eq_false h60, show wrongB true true 0 false false = 0 from rfl]
            have q6 : ¬ (60 : Int) ≤ (N : Int) := by omega
            go_enter Try.func27, Try.ntmps27
            go_upto_region 1 with fail
            rw [unhide HW]
            obtain ⟨⟨k0, k1, k2, k3, k4⟩, kp⟩ := unhide XC _ (Below.refl _ W)
            go_wp2_with fail
            refine (unhide CF).mono ?_
            clear k0 k1 k2 k3 k4 kp
            rintro x w1 ⟨rfl, b1⟩
            have B1 := hide b1
            clear b1
            obtain ⟨⟨k0, k1, k2, k3, k4⟩, kp⟩ := unhide XC _ (unhide B1)
            have C2 := hide (unhide CG w1)
            go_wp2_with fail
            refine (unhide C2).mono ?_
            clear k0 k1 k2 k3 k4 kp
            rintro x w2 ⟨rfl, b2⟩
            have B2 := hide (below_far (unhide B1) b2)
            clear b2
            obtain ⟨⟨k0, k1, k2, k3, k4⟩, kp⟩ := unhide XC _ (unhide B2)
            have C3 := hide (unhide CC w2 (below_far (unhide BW) (unhide B2)))
            go_wp2_with fail
            refine (unhide C3).mono ?_
            clear k0 k1 k2 k3 k4 kp
            rintro x w3 ⟨rfl, b3⟩
            have B3 := hide (below_far (unhide B2) b3)
            clear b3
            obtain ⟨⟨k0, k1, k2, k3, k4⟩, kp⟩ := unhide XC _ (unhide B3)
            have C4 := hide (unhide CJ w3)
            go_wp2_with fail
            refine (unhide C4).mono ?_
            clear k0 k1 k2 k3 k4 kp
            rintro x w4 ⟨rfl, b4⟩
            have B4 := hide (below_far (unhide B3) b4)
            clear b4
            obtain ⟨⟨k0, k1, k2, k3, k4⟩, kp⟩ := unhide XC _ (unhide B4)
            go_wp2
            go_ret
            exact ⟨rfl, below_far (unhide BW) (unhide B4)⟩
      · have HR : Hid (wrongB true true c j (decide (60 ≤ N)) = (c : Int)) := hide (by unfold wrongB; simp [hc0])
        rw [unhide HR]
        have q : ((c : Int) == 0) = false := by simp [hc0]
        clear HR hc0
        go_enter Try.func27, Try.ntmps27
        go_upto_region 1 with fail
        rw [unhide HW]
        obtain ⟨⟨k0, k1, k2, k3, k4⟩, kp⟩ := unhide XC _ (Below.refl _ W)
        go_wp2_with fail
        refine (unhide CF).mono ?_
        clear k0 k1 k2 k3 k4 kp
        rintro x w1 ⟨rfl, b1⟩
        have B1 := hide b1
        clear b1
        obtain ⟨⟨k0, k1, k2, k3, k4⟩, kp⟩ := unhide XC _ (unhide B1)
        have C2 := hide (unhide CG w1)
        go_wp2_with fail
        refine (unhide C2).mono ?_
        clear k0 k1 k2 k3 k4 kp
        rintro x w2 ⟨rfl, b2⟩
        have B2 := hide (below_far (unhide B1) b2)
        clear b2
        obtain ⟨⟨k0, k1, k2, k3, k4⟩, kp⟩ := unhide XC _ (unhide B2)
        have C3 := hide (unhide CC w2 (below_far (unhide BW) (unhide B2)))
        go_wp2_with fail
        refine (unhide C3).mono ?_
        clear k0 k1 k2 k3 k4 kp
        rintro x w3 ⟨rfl, b3⟩
        have B3 := hide (below_far (unhide B2) b3)
        clear b3
        obtain ⟨⟨k0, k1, k2, k3, k4⟩, kp⟩ := unhide XC _ (unhide B3)
        go_wp2
        go_ret
        exact ⟨rfl, below_far (unhide BW) (unhide B3)⟩
end Go.Proofs.Ytgllokinadjiaaa

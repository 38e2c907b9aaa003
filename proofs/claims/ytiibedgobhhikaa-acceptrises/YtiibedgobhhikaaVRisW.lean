/- AcceptRises: the walk. -/
import Derived.Test.YtiibedgobhhikaaVRisA
import Derived.Test.YtiibedgobhhikaaVKnown
import Derived.Test.YtiibedgobhhikaaVCall
import Derived.Deep.RegionHeld3
import Derived.Deep.DrawnRows
namespace Go.Proofs.Ytiibedgobhhikaa
open Go.RowKit Go.Maps
attribute [local go_sem ↓] Go.wp_at_zero Go.wp_at_succ

theorem zero_a65 (w : World) : (zeroValue 52).run Try.prog w = .ok (.agg (Array.replicate 65 (.int .i64 0))) w := by kernel_rfl
/-- the acceptor and the row of ballots. -/
def Rl (w0 w : World) (A p q : Nat) (P : Int) (c : Nat) : Prop :=
  ∃ (D : Nat → Prop) (f : Vf) (h : Nat → Int) (cs : Array Value), Ac D w p q P f c ∧ w.heap[A]? = some (.cells cs 52 (0, 0)) ∧ IntsC cs 65 h ∧ Rok P f h ∧ ¬ D A ∧ w0.heap.size ≤ A ∧ w0.heap.size ≤ p ∧ w0.heap.size ≤ q ∧ Below w0.heap.size w0 w
theorem Rl.below {w0 w w' : World} {A p q : Nat} {P : Int} {c : Nat} (h : Rl w0 w A p q P c) (hb : Below w.heap.size w w') : Rl w0 w' A p q P c := by
  obtain ⟨D, f, h, cs, k1, k2, k3, k4, k5, k6, k7, k8, k9⟩ := h
  exact ⟨D, f, h, cs, k1.below hb, Below.stay hb k2, k3, k4, k5, k6, k7, k8, below_far k9 hb⟩
theorem Rl.mono {w0 w : World} {A p q : Nat} {P : Int} {c c' : Nat} (h : Rl w0 w A p q P c) (hc : c ≤ c') : Rl w0 w A p q P c' := by
  obtain ⟨D, f, h, cs, k1, k2, k3, k4, k5, k6, k7, k8, k9⟩ := h
  exact ⟨D, f, h, cs, k1.mono hc, k2, k3, k4, k5, k6, k7, k8, k9⟩
/-- behind a ballot that was promised. -/
theorem Rl.kp {w0 w w' : World} {A p q : Nat} {P b : Int} {f g : Vf} {c : Nat} {D D' : Nat → Prop} {h : Nat → Int} {cs : Array Value} (k1 : Ac D w p q P f c) (k2 : w.heap[A]? = some (.cells cs 52 (0, 0))) (k3 : IntsC cs 65 h) (k5 : ¬ D A) (k6 : w0.heap.size ≤ A) (k7 : w0.heap.size ≤ p) (k8 : w0.heap.size ≤ q) (k9 : Below w0.heap.size w0 w)
    {c' : Nat} (a : Ac D' w' p q b g c') (hD : ¬ D' A) (r : Rok b g h) (hk : Kp (foot p q) w w') : Rl w0 w' A p q b c' := by
  refine ⟨D', g, h, cs, a, hk.block k2 (fun x => ?_), k3, r, hD, k6, k7, k8, k9.trans (hk.below (fun k hk => by rcases hk with rfl | rfl <;> assumption) k9.size)⟩
  rcases x with x | x
  · exact k5 (by rw [x]; exact k1.own.1)
  · exact k5 (by rw [x]; exact k1.own.2)
set_option maxRecDepth 20000 in
theorem Rl.accept {w0 w : World} {A p q : Nat} {P : Int} {c : Nat} (h : Rl w0 w A p q P c) (b s : Int) (e : En) (mo : Option Addr) (mc : Nat) (hi : InF (fun k => k < w0.heap.size) w mo e.ms) (hl : e.ms.length ≤ 1000000) (hc : c < 1000000) :
    Calls Try.prog 12 #[.pointer (some ⟨p, 0, none⟩), .int .i64 b, .int .i64 s, .agg #[.int .i64 e.kind, .int .i64 e.client, .int .i64 e.seq, .string e.text, .slice mo e.ms.length mc, .int .i64 e.dest]] w fun x w' => ∃ v, x = .returned v ∧ ∃ P', P ≤ P' ∧ Rl w0 w' A p q P' (c + 1) := by
  obtain ⟨D, f, h, cs, k1, k2, k3, k4, k5, k6, k7, k8, k9⟩ := h
  by_cases hn : noOf P b (decide (s < 1 ∨ 64 < s)) = 0
  · refine (accept_ok w b s e mo mc k1 (hi.mono (fun k hk => by omega)) hl hc hn).mono ?_
    rintro x w' ⟨rfl, a, kp⟩
    obtain ⟨h1, h2, h3⟩ := noOf_zero hn
    have h2' := of_decide_eq_false h2
    refine ⟨_, rfl, b, h3, Rl.kp k1 k2 k3 k5 k6 k7 k8 k9 a (fun x => ?_) (k4.put e h3 (by omega) (by omega)) kp⟩
    rcases x with x | x
    · exact k5 x
    · have := heap_lt k2; omega
  · refine (accept_no w b s e mo mc k1 hn).mono ?_
    rintro x w' ⟨rfl, hb⟩
    exact ⟨_, rfl, P, Int.le_refl _, (Rl.below ⟨D, f, h, cs, k1, k2, k3, k4, k5, k6, k7, k8, k9⟩ hb).mono (Nat.le_succ _)⟩
theorem Rl.prepare {w0 w : World} {A p q : Nat} {P : Int} {c : Nat} (h : Rl w0 w A p q P c) (b frm : Int) :
    Calls Try.prog 14 #[.pointer (some ⟨p, 0, none⟩), .int .i64 b, .int .i64 frm] w fun x w' => ∃ v, x = .returned v ∧ ∃ P', P ≤ P' ∧ Rl w0 w' A p q P' (c + 1) := by
  obtain ⟨D, f, h, cs, k1, k2, k3, k4, k5, k6, k7, k8, k9⟩ := h
  by_cases hn : noOf P b false = 0
  · refine (prepare_ok w b frm k1 hn).mono ?_
    rintro x w' ⟨rv, rfl, -, a, kp⟩
    obtain ⟨h1, h2, h3⟩ := noOf_zero hn
    exact ⟨_, rfl, b, h3, (Rl.kp k1 k2 k3 k5 k6 k7 k8 k9 a k5 (k4.promise h3) (kp.mono (fun j _ hj => Or.inl hj))).mono (Nat.le_succ _)⟩
  · refine (prepare_no w b frm k1 hn).mono ?_
    rintro x w' ⟨rfl, hb⟩
    exact ⟨_, rfl, P, Int.le_refl _, (Rl.below ⟨D, f, h, cs, k1, k2, k3, k4, k5, k6, k7, k8, k9⟩ hb).mono (Nat.le_succ _)⟩

/-- a ballot is written into the row. -/
theorem rise_fin {w0 wr wc V : World} {d A p q c S L cap base : Nat} {D : Nat → Prop} {P b : Int} {f : Vf} {h : Nat → Int} {cs : Array Value} {ao : Option Addr} {e : En} (hd : wc = wr.drewN d) (k1 : Ac D wr p q P f c) (k2 : wr.heap[A]? = some (.cells cs 52 (0, 0))) (k3 : IntsC cs 65 h) (k4 : Rok P f h) (k5 : VRow 54 0 base wr (.slice ao L cap) (allOf f)) (k6 : Below w0.heap.size w0 wr)
    (hf : f (S : Int) = some (b, e)) (hD : ¬ D A) (hA : w0.heap.size ≤ A) (hV : (wc.setCell ⟨A, S, none⟩ (.int .i64 b)).drew = V) :
    Ac D V p q P f c ∧ V.heap[A]? = some (.cells (cs.setIfInBounds S (.int .i64 b)) 52 (0, 0)) ∧ IntsC (cs.setIfInBounds S (.int .i64 b)) 65 (setN h S b) ∧ Rok P f (setN h S b) ∧ VRow 54 0 base V (.slice ao L cap) (allOf f) ∧ Below w0.heap.size w0 V := by
  have bc : Below wr.heap.size wr wc := by rw [hd]; exact drewN_below wr d
  have x1 := Below.stay bc k2
  have kp : Kp (fun k => k = A) wc V := by
    rw [← hV]
    exact (Kp.setCell (D := fun k => k = A) (Kp.refl _ _) (p := ⟨A, S, none⟩) rfl _).drew
  refine ⟨(k1.below bc).kp kp (fun k hk e => hD (by rw [← e]; exact hk)), by rw [← hV]; exact setCell_block (w := wc) x1, k3.set S b, ?_, (k5.below bc).far kp (ts := [3, 54]) (fun k hk _ => ⟨Nat.zero_le _, fun cur e' fr hc => ?_⟩) (by simp) (by simp), ?_⟩
  · have := k4.set hf
    rwa [show ((S : Int)).toNat = S by omega] at this
  · rw [hk, x1] at hc; cases hc; decide
  · rw [← hV]
    exact ((below_far k6 bc).setCell (p := ⟨A, S, none⟩) hA _).drew

set_option maxRecDepth 20000 in
set_option maxHeartbeats 8000000 in
theorem rises_walk (ao : Option Addr) (n cap : Nat) (cl : List Cl) (hn : cl.length = n) (hnl : n ≤ maxLen) (w : World) (hI : ClsA w ao cl) :
    Calls Try.prog 4 #[.slice ao n cap] w fun e w' => e = .returned (.bool true) ∧ Below w.heap.size w w' := by
  obtain ⟨Z, hZ⟩ : ∃ Z, Array.replicate 65 (Value.int .i64 0) = Z := ⟨_, rfl⟩
  have ZB : Hid (IntsC Z 65 fun _ => 0) := by rw [← hZ]; exact intsC_zero 65
  have zz := zero_a65
  rw [hZ] at zz
  clear hZ
  have C0 := hide (known_any w)
  have HI := hide hI
  have HN := hide hn
  have hn63 : n ≤ 9223372036854775807 := by unfold maxLen at hnl; omega
  clear hI hn hnl
  go_enter Try.func4, Try.ntmps4
  go_wp2_with fail
  refine (unhide C0).mono ?_
  rintro e w1 ⟨rfl, b1⟩
  have B1 := hide b1
  have C1 := hide (new_any w1)
  clear b1 C0
  go_wp2_with fail
  refine (unhide C1).mono ?_
  rintro e w2 ⟨p, q, rfl, A2, b2⟩
  obtain ⟨W, hW⟩ : ∃ W, w2.alloc (.cells Z 52) = W := ⟨_, rfl⟩
  have bW : Below w2.heap.size w2 W := by rw [← hW]; exact (Below.refl _ w2).alloc (Nat.le_refl _) _
  have xW : W.heap[w2.heap.size]? = some (.cells Z 52 (0, 0)) := by rw [← hW]; exact box_at _ _
  have T0 : Hid (Rl w W w2.heap.size p q 0 0) := hide ⟨_, _, _, _, A2.below bW, xW, unhide ZB, Rok.start, fun h => Nat.lt_irrefl _ h.2, Nat.le_trans (unhide B1).size b2.size, Nat.le_trans (unhide B1).size A2.own.1.1, Nat.le_trans (unhide B1).size A2.own.2.1, below_far (below_far (unhide B1) b2) bW⟩
  obtain ⟨A, hA⟩ : ∃ A, w2.heap.size = A := ⟨_, rfl⟩
  rw [hA] at T0
  have HW := hide hW
  have HA := hide hA
  clear A2 b2 bW xW C1 hW hA B1
  go_upto_region 6 with fail
  rw [unhide HW, unhide HA]
  clear HW HA zz ZB
  go_wp2_with fail
  go_loopw [4, 6] (fun tv iv wr => ∃ (k : Nat) (P : Int), k ≤ n ∧ k ≤ 60 ∧ iv = .int .i64 (k : Int) ∧ tv = .int .i64 P ∧ Rl w wr A p q P k) (fun _ iv _ => 60 - (intOf iv).toNat)
  case atStart => exact ⟨0, 0, Nat.zero_le _, by decide, rfl, rfl, unhide T0⟩
  case round =>
    obtain ⟨k, P, hk, hk60, rfl, rfl, ht⟩ := hrel
    have T := hide ht
    have BL : Hid (Below w.heap.size w wr) := hide (by obtain ⟨_, _, _, _, _, _, _, _, _, _, _, _, hb⟩ := ht; exact hb)
    clear ht T0
    by_cases hlt : k < n ∧ k < 60
    · obtain ⟨hkn, hk4⟩ := hlt
      have q1 : (k : Int) < (n : Int) := by omega
      have q2 : (k : Int) < 60 := by omega
      obtain ⟨c, hc⟩ : ∃ c, cl[k]? = some c := ⟨_, List.getElem?_eq_getElem (by rw [unhide HN]; exact hkn)⟩
      obtain ⟨g, off, mo, mc, rfl, a0, a1, a2, a3, a4, a5, a6, a7, a8, him⟩ := (unhide HI).at hc
      have c0 : wr.cell? _ = _ := ((unhide BL).cell (blk_lt a0)).trans a0
      have c1 : wr.cell? _ = _ := ((unhide BL).cell (blk_lt a1)).trans a1
      have c2 : wr.cell? _ = _ := ((unhide BL).cell (blk_lt a2)).trans a2
      have c3 : wr.cell? _ = _ := ((unhide BL).cell (blk_lt a3)).trans a3
      have c4 : wr.cell? _ = _ := ((unhide BL).cell (blk_lt a4)).trans a4
      have c5 : wr.cell? _ = _ := ((unhide BL).cell (blk_lt a5)).trans a5
      have c6 : wr.cell? _ = _ := ((unhide BL).cell (blk_lt a6)).trans a6
      have c7 : wr.cell? _ = _ := ((unhide BL).cell (blk_lt a7)).trans a7
      have c8 : wr.cell? _ = _ := ((unhide BL).cell (blk_lt a8)).trans a8
      obtain ⟨W1, hW1⟩ : ∃ W1, wr.alloc (.cells #[.bool c.acc, .int .i64 c.ballot, .int .i64 c.slot, .int .i64 c.e.kind, .int .i64 c.e.client, .int .i64 c.e.seq, .string c.e.text, .slice mo c.e.ms.length mc, .int .i64 c.e.dest] 34) = W1 := ⟨_, rfl⟩
      have b1 : Below wr.heap.size wr W1 := by rw [← hW1]; exact (Below.refl _ wr).alloc (Nat.le_refl _) _
      have x1 : W1.heap[wr.heap.size]? = some (.cells #[.bool c.acc, .int .i64 c.ballot, .int .i64 c.slot, .int .i64 c.e.kind, .int .i64 c.e.client, .int .i64 c.e.seq, .string c.e.text, .slice mo c.e.ms.length mc, .int .i64 c.e.dest] 34 (0, 0)) := by rw [← hW1]; exact box_at _ _
      have CF := hide (few_any c.e mo mc W1)
      have T1 := hide ((unhide T).below b1)
      have I1 := hide (him.inF.below (below_far (unhide BL) b1))
      have d0 : W1.cell? ⟨wr.heap.size, 0, none⟩ = some (.bool c.acc) := (cell_of_block x1).trans rfl
      have d1 : W1.cell? ⟨wr.heap.size, 1, none⟩ = some (.int .i64 c.ballot) := (cell_of_block x1).trans rfl
      have d2 : W1.cell? ⟨wr.heap.size, 2, none⟩ = some (.int .i64 c.slot) := (cell_of_block x1).trans rfl
      have d3 : W1.cell? ⟨wr.heap.size, 3, none⟩ = some (.int .i64 c.e.kind) := (cell_of_block x1).trans rfl
      have d4 : W1.cell? ⟨wr.heap.size, 4, none⟩ = some (.int .i64 c.e.client) := (cell_of_block x1).trans rfl
      have d5 : W1.cell? ⟨wr.heap.size, 5, none⟩ = some (.int .i64 c.e.seq) := (cell_of_block x1).trans rfl
      have d6 : W1.cell? ⟨wr.heap.size, 6, none⟩ = some (.string c.e.text) := (cell_of_block x1).trans rfl
      have d7 : W1.cell? ⟨wr.heap.size, 7, none⟩ = some (.slice mo c.e.ms.length mc) := (cell_of_block x1).trans rfl
      have d8 : W1.cell? ⟨wr.heap.size, 8, none⟩ = some (.int .i64 c.e.dest) := (cell_of_block x1).trans rfl
      have HW1 := hide hW1
      have X1 := hide x1
      clear a0 a1 a2 a3 a4 a5 a6 a7 a8 him hc hW1 x1 b1 T
      go_upto_region 10 with fail
      rw [unhide HW1]
      clear c0 c1 c2 c3 c4 c5 c6 c7 c8
      go_wp2_with fail
      refine (unhide CF).mono ?_
      rintro e w2 ⟨rfl, b2⟩
      have T2 := hide ((unhide T1).below b2)
      have I2 := hide ((unhide I1).below b2)
      obtain ⟨fw, hf⟩ : ∃ fw, decide (c.e.text.size < 300 ∧ c.e.ms.length < 50) = fw := ⟨_, rfl⟩
      rw [hf]
      have HF := hide hf
      have x2 := Below.stay b2 (unhide X1)
      have e0 : w2.cell? ⟨wr.heap.size, 0, none⟩ = some (.bool c.acc) := (cell_of_block x2).trans rfl
      have e1 : w2.cell? ⟨wr.heap.size, 1, none⟩ = some (.int .i64 c.ballot) := (cell_of_block x2).trans rfl
      have e2 : w2.cell? ⟨wr.heap.size, 2, none⟩ = some (.int .i64 c.slot) := (cell_of_block x2).trans rfl
      have e3 : w2.cell? ⟨wr.heap.size, 3, none⟩ = some (.int .i64 c.e.kind) := (cell_of_block x2).trans rfl
      have e4 : w2.cell? ⟨wr.heap.size, 4, none⟩ = some (.int .i64 c.e.client) := (cell_of_block x2).trans rfl
      have e5 : w2.cell? ⟨wr.heap.size, 5, none⟩ = some (.int .i64 c.e.seq) := (cell_of_block x2).trans rfl
      have e6 : w2.cell? ⟨wr.heap.size, 6, none⟩ = some (.string c.e.text) := (cell_of_block x2).trans rfl
      have e7 : w2.cell? ⟨wr.heap.size, 7, none⟩ = some (.slice mo c.e.ms.length mc) := (cell_of_block x2).trans rfl
      have e8 : w2.cell? ⟨wr.heap.size, 8, none⟩ = some (.int .i64 c.e.dest) := (cell_of_block x2).trans rfl
      clear d0 d1 d2 d3 d4 d5 d6 d7 d8 hf b2 T1 I1 CF x2 X1 HW1
      cases fw with
      | false =>
        go_wp2
        go_roundw
        case rel => exact ⟨k + 1, P, by omega, by omega, by go_num, rfl, (unhide T2).mono (Nat.le_succ _)⟩
        case measure => simp [intOf]; omega
      | true =>
        have HML : Hid (c.e.ms.length ≤ 1000000) := hide (by have := of_decide_eq_true (unhide HF); omega)
        go_upto_if 32 with fail
        go_cut [] (fun wc => ∃ P', P ≤ P' ∧ Rl w wc A p q P' (k + 1))
        case first =>
          cases hacc : c.acc with
          | true =>
            rw [hacc] at e0
            have CA := hide ((unhide T2).accept c.ballot c.slot c.e mo mc (unhide I2) (unhide HML) (by omega))
            go_wp2_with fail
            refine (unhide CA).mono ?_
            rintro e w3 ⟨v, rfl, P', hP, hR⟩
            have FIN := hide (And.intro hP hR)
            clear hP hR CA
            go_wp2
            go_meet
            exact ⟨P', unhide FIN⟩
          | false =>
            rw [hacc] at e0
            have CA := hide ((unhide T2).prepare c.ballot c.slot)
            go_wp2_with fail
            refine (unhide CA).mono ?_
            rintro e w3 ⟨v, rfl, P', hP, hR⟩
            have FIN := hide (And.intro hP hR)
            clear hP hR CA
            go_wp2
            go_meet
            exact ⟨P', unhide FIN⟩
        case rest =>
          obtain ⟨P', hP, hR⟩ := hcut
          obtain ⟨D, f, h, cs, k1, k2, k3, k4, k5, k6, k7, k8, k9⟩ := hR
          have q3 : ¬ P' < P := by omega
          have AA := hide k1
          have BX := hide k2
          have NT := hide k3
          have RK := hide k4
          have ND := hide k5
          have LO := hide (And.intro k6 (And.intro k7 k8))
          have BB := hide k9
          have CP := hide (promised_any wc (unhide AA))
          have CV := hide (votes_any wc (unhide AA))
          clear k1 k2 k3 k4 k5 k6 k7 k8 k9 hP T2 I2 HML e0 e1 e2 e3 e4 e5 e6 e7 e8
          go_wp2_with (go_at_call 20; refine (unhide CP).mono ?_; rintro e w' ⟨rfl, hw⟩; replace hw := hw.symm; subst hw)
          refine (unhide CV).mono ?_
          rintro e w3 ⟨rv, rfl, r3, b3⟩
          obtain ⟨ao3, cap3, rfl, -, -⟩ := r3.slice
          obtain ⟨L, hL⟩ : ∃ L, (allOf f).length = L := ⟨_, rfl⟩
          rw [hL]
          rw [hL] at r3
          have hL64 : L ≤ 64 := by rw [← hL]; exact toldN_len f 1 64
          have R3 := hide r3
          have HL := hide hL
          have A3 := hide ((unhide AA).below b3)
          have B3 := hide (below_far (unhide BB) b3)
          have X3 := hide (Below.stay b3 (unhide BX))
          clear r3 hL b3 CP CV AA BX BB
          go_wp2_with fail
          go_loopw [9] (fun iv wx => ∃ (m : Nat) (h : Nat → Int) (cs : Array Value), m ≤ L ∧ iv = .int .i64 (m : Int) ∧ Ac D wx p q P' f (k + 1) ∧ wx.heap[A]? = some (.cells cs 52 (0, 0)) ∧ IntsC cs 65 h ∧ Rok P' f h ∧ VRow 54 0 wc.heap.size wx (.slice ao3 L cap3) (allOf f) ∧ Below w.heap.size w wx) (fun iv _ => 65 - (intOf iv).toNat)
          case atStart => exact ⟨0, _, _, Nat.zero_le _, rfl, unhide A3, unhide X3, unhide NT, unhide RK, unhide R3, unhide B3⟩
          case round =>
            obtain ⟨m, h2, cs2, hm, rfl, j1, j2, j3, j4, j5, j6⟩ := hrel
            have A4 := hide j1
            have X4 := hide j2
            have N4 := hide j3
            have K4 := hide j4
            have R4 := hide j5
            have B4 := hide j6
            clear j1 j2 j3 j4 j5 j6 A3 X3 NT RK R3 B3
            by_cases hml : m < L
            · obtain ⟨v, hv⟩ : ∃ v, (allOf f)[m]? = some v := ⟨_, List.getElem?_eq_getElem (by rw [unhide HL]; exact hml)⟩
              obtain ⟨g3, off3, mo3, mc3, rfl, d0, d1, -⟩ := (unhide R4).vsR.at hv
              have hfv := all_mem hv
              obtain ⟨u1, u2, u3, u4⟩ := (unhide K4).vote _ _ _ hfv
              obtain ⟨S, hS⟩ : ∃ S : Nat, v.slot = (S : Int) := ⟨v.slot.toNat, by omega⟩
              obtain ⟨b, hb⟩ : ∃ b, v.ballot = b := ⟨_, rfl⟩
              rw [hS, hb] at hfv
              rw [hS] at d0 u1 u2 u3
              rw [hb] at d1 u3 u4
              rw [show ((S : Int)).toNat = S by omega] at u3
              have hS65 : S < 65 := by omega
              have cA : wr.cell? ⟨A, S, none⟩ = some (.int .i64 (h2 S)) := (cell_of_block (unhide X4)).trans ((unhide N4).2 S hS65)
              have fA : wr.frozen? ⟨A, S, none⟩ = false := free_of_block (unhide X4)
              obtain ⟨hv2, hhv⟩ : ∃ x, h2 S = x := ⟨_, rfl⟩
              rw [hhv] at cA u3
              have z1 : ¬ (S : Int) < 1 := by omega
              have z2 : ¬ (64 : Int) < (S : Int) := by omega
              have z3 : ¬ b < hv2 := by omega
              have z4 : ¬ P' < b := by omega
              have z5 : (S : Int) < 65 := by omega
              have z6 : (m : Int) < (L : Int) := by omega
              have FV := hide hfv
              have HV := hide hv
              have HS := hide hS
              have U1 := hide (And.intro u1 u2)
              clear u1 u2 u3 u4 hfv hv hb hhv
              go_upto_region 21 with fail
              go_cut [116] (fun v116 wd => v116 = .bool false ∧ ∃ d, wd = wr.drewN d)
              case first =>
                by_cases hm0 : m = 0
                · subst hm0
                  simp only [Nat.zero_mul, Nat.add_zero] at d0 d1
                  refine wp_region_quiet_lit (by kernel_rfl) (by kernel_rfl) ?_
                  repeat (
                    with_reducible refine wpQuiet_step (fun K hK => ?_)
                    go_simp
                    first
                      | (refine hK _ ?_; clear hK K)
                      | (apply Exists.intro
                         refine ⟨fun _ => ?_, hK _ ?_⟩
                         (fail)
                         clear hK K))
                  refine wpQuiet_nil ?_
                  rintro wq ⟨nq, rfl⟩
                  go_wp2
                  go_meet
                  exact ⟨rfl, _, rfl⟩
                · obtain ⟨m', hm'⟩ : ∃ m', m' + 1 = m := ⟨m - 1, by omega⟩
                  obtain ⟨u, hu⟩ : ∃ u, (allOf f)[m']? = some u := ⟨_, List.getElem?_eq_getElem (by rw [unhide HL]; omega)⟩
                  obtain ⟨g4, off4, mo4, mc4, e4, y0, -⟩ := (unhide R4).vsR.at hu
                  cases e4
                  have hlt := all_rise hu (by rw [hm']; exact unhide HV)
                  rw [unhide HS] at hlt
                  obtain ⟨us, hus⟩ : ∃ x, u.slot = x := ⟨_, rfl⟩
                  rw [hus] at y0 hlt
                  have z7 : ¬ (S : Int) ≤ us := by omega
                  have z8 : (0 : Int) < (m : Int) := by omega
                  have z8' : 0 < m := by omega
                  have z9 : (m' : Int) < (L : Int) := by omega
                  have w9 : IntKind.i64.wrap ((m : Int) - 1) = (m' : Int) := by rw [IntWalk.i64_in _ (by omega)]; omega
                  clear hu hus hlt hm'
                  refine wp_region_quiet_lit (by kernel_rfl) (by kernel_rfl) ?_
                  repeat (
                    with_reducible refine wpQuiet_step (fun K hK => ?_)
                    go_simp
                    first
                      | (refine hK _ ?_; clear hK K)
                      | (apply Exists.intro
                         refine ⟨fun _ => ?_, hK _ ?_⟩
                         (fail)
                         clear hK K))
                  refine wpQuiet_nil ?_
                  rintro wq ⟨nq, rfl⟩
                  go_wp2
                  go_meet
                  exact ⟨rfl, _, rfl⟩
              case rest =>
                obtain ⟨rfl, d, hd⟩ := hcut
                have SX : Hid (∀ Y : World, (∀ k, k ≠ A → Y.heap[k]? = wr.heap[k]?) → Y.cell? ⟨g3, off3 + m * 8, none⟩ = some (.int .i64 (S : Int)) ∧ Y.cell? ⟨g3, off3 + m * 8 + 1, none⟩ = some (.int .i64 b)) := hide (fun Y hY => by
                  have hgA : g3 ≠ A := fun x => by
                    obtain ⟨_, _, _, _, hc⟩ := (unhide R4).tag g3 rfl
                    rw [x, unhide X4] at hc; cases hc
                  exact ⟨(World.cell?_of_block (w := wr) (a := ⟨g3, off3 + m * 8, none⟩) (hY g3 hgA)).trans d0, (World.cell?_of_block (w := wr) (a := ⟨g3, off3 + m * 8 + 1, none⟩) (hY g3 hgA)).trans d1⟩)
                have hwd : ∀ k : Nat, wc.heap[k]? = wr.heap[k]? := fun k => by rw [hd]; rfl
                have S0 := unhide SX wc.drew (fun k _ => hwd k)
                have cA1 : wc.cell? ⟨A, S, none⟩ = some (.int .i64 hv2) := (World.cell?_of_block (w := wr) (a := ⟨A, S, none⟩) (hwd A)).trans cA
                have cA2 : wc.drew.cell? ⟨A, S, none⟩ = some (.int .i64 hv2) := cA1
                have fA1 : wc.frozen? ⟨A, S, none⟩ = false := free_of_block ((hwd A).trans (unhide X4))
                have fA2 : wc.drew.frozen? ⟨A, S, none⟩ = false := fA1
                have SZ := hide (fun (Y : World) (hY : ∀ k : Nat, Y.heap[k]? = wr.heap[k]?) (x : Value) => unhide SX (Y.setCell ⟨A, S, none⟩ x) (fun k hk => (Below.heap_setCell _ _ _ k hk).trans (hY k)))
                have HD := hide hwd
                have HDD := hide hd
                clear hwd hd cA fA d0 d1
                go_upto_region 23 with fail
                go_region_held3 (fun Y => Y.cell? ⟨g3, off3 + m * 8, none⟩ = some (.int .i64 (S : Int)) ∧ Y.cell? ⟨g3, off3 + m * 8 + 1, none⟩ = some (.int .i64 b)) (first | with_reducible exact S0 | exact unhide SZ wc.drew (fun k => unhide HD k) _ | exact unhide SZ wc (fun k => unhide HD k) _ | fail) (fail)
                all_goals
                  obtain ⟨V, hV⟩ : ∃ V, (wc.setCell ⟨A, S, none⟩ (.int .i64 b)).drew = V := ⟨_, rfl⟩
                  have FIN := hide (rise_fin (unhide HDD) (unhide A4) (unhide X4) (unhide N4) (unhide K4) (unhide R4) (unhide B4) (unhide FV) (unhide ND) (unhide LO).1 hV)
                  rw [hV]
                  clear hV A4 X4 N4 K4 R4 B4 SX SZ S0
                  go_wp2
                  go_roundw
                  case rel => exact ⟨m + 1, setN h2 S b, cs2.setIfInBounds S (.int .i64 b), by omega, by go_num, unhide FIN⟩
                  case measure => simp [intOf]; omega
            · obtain rfl : m = L := by omega
              go_wp2
              go_roundw
              case rel => exact ⟨k + 1, P', by omega, by omega, by go_num, rfl, D, f, h2, cs2, unhide A4, unhide X4, unhide N4, unhide K4, unhide ND, (unhide LO).1, (unhide LO).2.1, (unhide LO).2.2, unhide B4⟩
              case measure => simp [intOf]; omega
    · by_cases hx : k < n
      all_goals
        first
          | (have q1 : (k : Int) < (n : Int) := by omega
             have q2 : ¬ (k : Int) < 60 := by omega)
          | (have q1 : ¬ (k : Int) < (n : Int) := by omega)
        go_wp2
        go_ret
        exact ⟨rfl, unhide BL⟩
end Go.Proofs.Ytiibedgobhhikaa

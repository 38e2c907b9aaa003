/- AcceptTells: the walk. -/
import Derived.Test.YtiibedgobhhikaaVTelA
import Derived.Test.YtiibedgobhhikaaVKnown
import Derived.Test.YtiibedgobhhikaaVWithin
namespace Go.Proofs.Ytiibedgobhhikaa
open Go.RowKit Go.Maps

theorem zero_a21 (w : World) : (zeroValue 60).run Try.prog w = .ok (.agg (Array.replicate 21 (.int .i64 0))) w := by kernel_rfl
/-- the acceptor and the row of numbers go alike. -/
def Tl (w0 w : World) (A p q k : Nat) : Prop :=
  ∃ (D : Nat → Prop) (f : Vf) (h : Nat → Int) (cs : Array Value), Ac D w p q (k : Int) f k ∧ w.heap[A]? = some (.cells cs 60 (0, 0)) ∧ IntsC cs 21 h ∧ Tok f h ∧ ¬ D A ∧ w0.heap.size ≤ A ∧ w0.heap.size ≤ p ∧ w0.heap.size ≤ q ∧ Below w0.heap.size w0 w

set_option maxRecDepth 20000 in
set_option maxHeartbeats 4000000 in
theorem tells_walk (ao : Option Addr) (n cap : Nat) (ys : List Int) (hn : ys.length = n) (hnl : n ≤ maxLen) (frm : Int) (late : Bool) (w : World) (hI : IntsR w ao ys) :
    Calls Try.prog 7 #[.slice ao n cap, .int .i64 frm, .bool late] w fun e w' => e = .returned (.bool true) ∧ Below w.heap.size w w' := by
  obtain ⟨Z, hZ⟩ : ∃ Z, Array.replicate 21 (Value.int .i64 0) = Z := ⟨_, rfl⟩
  have ZB : Hid (IntsC Z 21 fun _ => 0) := by rw [← hZ]; exact intsC_zero 21
  have zz := zero_a21
  rw [hZ] at zz
  clear hZ
  have C0 := hide (known_any w)
  have HI := hide hI
  have HN := hide hn
  have hn63 : n ≤ 9223372036854775807 := by unfold maxLen at hnl; omega
  clear hI hn hnl
  go_enter Try.func7, Try.ntmps7
  go_wp2_with fail
  refine (unhide C0).mono ?_
  rintro e w1 ⟨rfl, b1⟩
  have B1 := hide b1
  have C1 := hide (new_any w1)
  clear b1 C0
  go_wp2_with fail
  refine (unhide C1).mono ?_
  rintro e w2 ⟨p, q, rfl, A2, b2⟩
  obtain ⟨W, hW⟩ : ∃ W, w2.alloc (.cells Z 60) = W := ⟨_, rfl⟩
  have bW : Below w2.heap.size w2 W := by rw [← hW]; exact (Below.refl _ w2).alloc (Nat.le_refl _) _
  have xW : W.heap[w2.heap.size]? = some (.cells Z 60 (0, 0)) := by rw [← hW]; exact box_at _ _
  have T0 : Hid (Tl w W w2.heap.size p q 0) := hide ⟨_, _, _, _, A2.below bW, xW, unhide ZB, Tok.start, fun h => Nat.lt_irrefl _ h.2, Nat.le_trans (unhide B1).size b2.size, Nat.le_trans (unhide B1).size A2.own.1.1, Nat.le_trans (unhide B1).size A2.own.2.1, below_far (below_far (unhide B1) b2) bW⟩
  obtain ⟨A, hA⟩ : ∃ A, w2.heap.size = A := ⟨_, rfl⟩
  rw [hA] at T0
  have HW := hide hW
  have HA := hide hA
  clear A2 b2 bW xW C1 hW hA B1
  go_upto_region 5 with fail
  rw [unhide HW, unhide HA]
  clear HW HA zz ZB
  go_wp2_with fail
  go_loopw [9] (fun iv wr => ∃ k : Nat, k ≤ n ∧ k ≤ 40 ∧ iv = .int .i64 (k : Int) ∧ Tl w wr A p q k) (fun iv _ => 40 - (intOf iv).toNat)
  case atStart => exact ⟨0, Nat.zero_le _, by decide, rfl, unhide T0⟩
  case round =>
    obtain ⟨k, hk, hk40, rfl, ht⟩ := hrel
    have T := hide ht
    clear ht T0
    by_cases hlt : k < n ∧ k < 40
    · obtain ⟨hkn, hk4⟩ := hlt
      have q1 : (k : Int) < (n : Int) := by omega
      have q2 : (k : Int) < 40 := by omega
      obtain ⟨D, f, h, cs, hA, hbox, hints, htok, hDA, hAw, hpw, hqw, hbel⟩ := unhide T
      obtain ⟨a1, rfl, hcell⟩ := (unhide HI) k (by rw [unhide HN]; exact hkn)
      have c1 : wr.cell? (a1.add k) = some (.int .i64 (ys.getD k 0)) := by rw [hbel.cell (blk_lt hcell)]; exact hcell
      obtain ⟨j, hj, CW⟩ := within_nat (ys.getD k 0) 20 wr (by decide) (by decide)
      obtain ⟨S, hS⟩ : ∃ S : Nat, (1 : Int) + (j : Int) = (S : Int) := ⟨1 + j, by omega⟩
      obtain ⟨K, hK⟩ : ∃ K : Int, (k : Int) + 1 = K := ⟨_, rfl⟩
      have hS1 : 1 ≤ S := by omega
      have hS2 : S ≤ 20 := by omega
      have hS3 : S < 21 := by omega
      have hno : noOf (k : Int) K (decide ((S : Int) < 1 ∨ 64 < (S : Int))) = 0 := by
        unfold noOf
        rw [decide_eq_false (by omega), if_neg (by simp; omega), if_neg (by omega)]
      have CA := accept_ok wr K (S : Int) (numE K) none 0 hA (InF.nil _ _ _) (by simp [numE]) (by omega) hno
      simp only [numE, List.length_nil] at CA
      have CC := hide CA
      have CCW := hide CW
      have TK := hide htok
      have BX := hide hbox
      have NT := hide hints
      have ND := hide hDA
      have AA := hide hA
      have LO := hide (And.intro hAw (And.intro hpw hqw))
      have BL := hide hbel
      have HK := hide hK
      have HS := hide hS
      have hK1 : K = ((k + 1 : Nat) : Int) := by omega
      have HK1 := hide hK1
      clear CA CW htok hbox hints hDA hA hAw hpw hqw hbel hno hcell hK1 hS hK
      go_upto_region 9 with (go_at_call 22; refine (unhide CCW).mono ?_; rintro e w' ⟨rfl, hw⟩; replace hw := hw.symm; subst hw)
      rw [unhide HS]
      clear c1 CCW
      go_wp2_with fail
      rw [unhide HK]
      refine (unhide CC).mono ?_
      rintro e w2' ⟨rfl, A3, k3⟩
      have hAp : A ≠ p := fun e => unhide ND (by rw [e]; exact (unhide AA).own.1)
      have hAq : A ≠ q := fun e => unhide ND (by rw [e]; exact (unhide AA).own.2)
      have x3 := k3.block (unhide BX) (fun x => by rcases x with x | x; exact hAp x; exact hAq x)
      have c3 : w2'.cell? ⟨A, S, none⟩ = some (.int .i64 (h S)) := (cell_of_block x3).trans ((unhide NT).2 S hS3)
      have f3 : w2'.frozen? ⟨A, S, none⟩ = false := free_of_block x3
      obtain ⟨W4, hW4⟩ : ∃ W, w2'.setCell ⟨A, S, none⟩ (.int .i64 K) = W := ⟨_, rfl⟩
      have B3 : Below w.heap.size w w2' := (unhide BL).trans (k3.below (fun k hk => by have := unhide LO; rcases hk with rfl | rfl <;> omega) (unhide BL).size)
      have T4 : Hid (Tl w W4 A p q (k + 1)) := by
        rw [← hW4]
        have e0 := unhide HK1
        subst e0
        generalize hKK : ((k + 1 : Nat) : Int) = K at *
        have hk4' : Kp (fun k => k = A) w2' (w2'.setCell ⟨A, S, none⟩ (.int .i64 K)) := Kp.setCell (D := fun k => k = A) (Kp.refl _ _) (p := ⟨A, S, none⟩) rfl _
        have hdA : ¬ News D wr w2' A := fun x => by
          rcases x with x | x
          · exact unhide ND x
          · have := heap_lt (unhide BX); omega
        have A4 := A3.kp hk4' (fun j hj e => hdA (by rw [← e]; exact hj))
        refine ⟨_, _, _, _, by rw [hKK]; exact A4, setCell_block x3, (unhide NT).set S K, ?_, hdA, (unhide LO).1, (unhide LO).2.1, (unhide LO).2.2, B3.setCell (p := ⟨A, S, none⟩) (unhide LO).1 _⟩
        exact (unhide TK).put hS1 hS2 (by omega)
      have HW4 := hide hW4
      clear A3 k3 x3 B3 hW4 CC hAp hAq
      go_upto_region 7 with fail
      rw [unhide HK, unhide HW4]
      clear c3 f3
      go_wp2
      go_roundw
      case rel => exact ⟨k + 1, by omega, by omega, by go_num, unhide T4⟩
      case measure => simp [intOf]; omega
    · obtain ⟨D, f, h, cs, hA, hbox, hints, htok, hDA, hAw, hpw, hqw, hbel⟩ := unhide T
      have TK := hide htok
      have BX := hide hbox
      have NT := hide hints
      have AA := hide hA
      have LO := hide (And.intro hAw (And.intro hpw hqw))
      have BL := hide hbel
      have ND := hide hDA
      clear htok hbox hints hA hAw hpw hqw hbel T hDA
      cases late with
      | true =>
        have CP := hide (promised_any wr (unhide AA))
        obtain ⟨b, hb⟩ : ∃ b : Int, (k : Int) - 1 = b := ⟨_, rfl⟩
        have hno : noOf (k : Int) b false ≠ 0 := by
          unfold noOf
          split
          · decide
          · rw [if_pos (by omega)]; decide
        obtain ⟨no, hNO⟩ : ∃ no, noOf (k : Int) b false = no := ⟨_, rfl⟩
        have C3 := prepare_no wr b frm (unhide AA) hno
        rw [hNO] at C3
        have CC := hide C3
        have HB := hide hb
        have HNO := hide hNO
        clear C3 hno hb hNO
        by_cases hx : k < n
        all_goals
          first
            | (have q1 : (k : Int) < (n : Int) := by omega
               have q2 : ¬ (k : Int) < 40 := by omega)
            | (have q1 : ¬ (k : Int) < (n : Int) := by omega)
          go_upto_region 15 with (go_at_call 20; refine (unhide CP).mono ?_; rintro e w' ⟨rfl, hw⟩; replace hw := hw.symm; subst hw)
          rw [unhide HB]
          go_wp2_with fail
          refine (unhide CC).mono ?_
          rintro e w3 ⟨rfl, b3⟩
          have B3 := hide (below_far (unhide BL) b3)
          clear b3
          by_cases hb1 : b < 1
          · obtain rfl : no = 1 := by rw [← unhide HNO]; unfold noOf; rw [if_pos (Or.inl hb1)]
            go_wp2
            go_ret
            exact ⟨rfl, unhide B3⟩
          · obtain rfl : no = 19 := by
              rw [← unhide HNO]; unfold noOf
              rw [if_neg (by simp; omega), if_pos (by have := unhide HB; omega)]
            go_wp2
            go_ret
            exact ⟨rfl, unhide B3⟩
      | false =>
        have hno : noOf (k : Int) 100 false = 0 := by
          unfold noOf
          rw [if_neg (by simp), if_neg (by omega)]
        have CC := hide (prepare_ok wr 100 frm (unhide AA) hno)
        clear hno
        by_cases hx : k < n
        all_goals
          first
            | (have q1 : (k : Int) < (n : Int) := by omega
               have q2 : ¬ (k : Int) < 40 := by omega)
            | (have q1 : ¬ (k : Int) < (n : Int) := by omega)
          go_wp2_with fail
          refine (unhide CC).mono ?_
          rintro e w3 ⟨rv, rfl, r3, A3, k3⟩
          have hAp : A ≠ p := fun e => unhide ND (by rw [e]; exact (unhide AA).own.1)
          have X3 := hide (k3.block (unhide BX) (fun x => hAp x))
          have B3 := hide ((unhide BL).trans (k3.below (base := w.heap.size) (fun j hj => by subst hj; exact (unhide LO).2.1) (unhide BL).size))
          obtain ⟨ao3, cap3, rfl, -, -⟩ := r3.slice
          obtain ⟨L, hL⟩ : ∃ L, (toldOf f frm).length = L := ⟨_, rfl⟩
          rw [hL]
          have hL64 : L ≤ 64 := by rw [← hL]; exact toldOf_len f frm
          have R3 := hide r3.vsR
          have A3' := hide A3
          have HL := hide hL
          clear r3 A3 k3 hAp hL CC
          go_wp2_with fail
          go_loopw [15, 16] (fun kv sv wx => ∃ s : Nat, 1 ≤ s ∧ s ≤ 21 ∧ sv = .int .i64 (s : Int) ∧ kv = .int .i64 (cnt f frm s : Int) ∧ Below w3.heap.size w3 wx) (fun _ sv _ => 21 - (intOf sv).toNat)
          case atStart => exact ⟨1, by decide, by decide, rfl, by rw [cnt_one]; rfl, Below.refl _ _⟩
          case round =>
            obtain ⟨s, hs1, hs21, rfl, rfl, hbx⟩ := hrel
            have BX2 := hide hbx
            clear hbx
            obtain ⟨K, hK⟩ : ∃ K, cnt f frm s = K := ⟨_, rfl⟩
            have hK64 : K ≤ 64 := by rw [← hK]; exact cnt_le f frm s (by omega)
            rw [hK]
            have HK := hide hK
            clear hK
            by_cases hlt : s ≤ 20
            · have z1 : (s : Int) ≤ 20 := by omega
              have z2 : s < 21 := by omega
              have z3 : (s : Int) < 21 := by omega
              have cA : wr.cell? ⟨A, s, none⟩ = some (.int .i64 (h s)) := (cell_of_block (Below.stay (unhide BX2) (unhide X3))).trans ((unhide NT).2 s z2)
              obtain ⟨hv, hhv⟩ : ∃ v, h s = v := ⟨_, rfl⟩
              rw [hhv] at cA
              have HT := hide ((unhide TK).at' s hs1 hlt)
              rw [hhv] at HT
              clear hhv
              by_cases hh0 : hv = 0
              · subst hh0
                have SK := hide (cnt_skip (frm := frm) hs1 (Or.inr (by have := unhide HT; rw [if_pos rfl] at this; exact this)))
                clear HT
                go_wp2
                go_roundw
                case rel => exact ⟨s + 1, by omega, by omega, by go_num, by rw [unhide SK, unhide HK], unhide BX2⟩
                case measure => simp [intOf]; omega
              · have hz : (hv == 0) = false := by simp [hh0]
                by_cases hsf : (s : Int) < frm
                · have SK := hide (cnt_skip (f := f) hs1 (Or.inl hsf))
                  go_wp2
                  go_roundw
                  case rel => exact ⟨s + 1, by omega, by omega, by go_num, by rw [unhide SK, unhide HK], unhide BX2⟩
                  case measure => simp [intOf]; omega
                · have hit := cnt_hit (f := f) (frm := frm) (e := numE hv) (b := hv) hs1 (by omega) hsf (by have := unhide HT; rw [if_neg hh0] at this; exact this)
                  rw [unhide HK, unhide HL] at hit
                  obtain ⟨h1, h2, h3⟩ := hit
                  obtain ⟨g3, off3, mo3, mc3, rfl, d0, d1, -, -, d4, -⟩ := ((unhide R3).below (unhide BX2)).at h2
                  simp only [numE] at d0 d1 d4
                  have q5 : ¬ (L : Int) ≤ (K : Int) := by omega
                  have q6 : (K : Int) < (L : Int) := by omega
                  have H1 := hide h1
                  clear h1 h2
                  go_upto_region 26 with fail
                  refine wp_region_quiet_lit (by kernel_rfl) (by kernel_rfl) ?_
                  repeat (
                    with_reducible refine wpQuiet_step (fun K hK => ?_)
                    go_simp
                    first
                      | (refine hK _ ?_; clear hK K)
                      | (apply Exists.intro
                         refine ⟨fun _ => ?_, hK _ ?_⟩
                         (fail)
                         clear hK K))
                  refine wpQuiet_nil ?_
                  rintro wq ⟨nq, rfl⟩
                  go_wp2
                  go_roundw
                  case rel => exact ⟨s + 1, by omega, by omega, by go_num, by rw [unhide H1]; rfl, below_far (unhide BX2) (drewN_below _ _)⟩
                  case measure => simp [intOf]; omega
            · obtain rfl : s = 21 := by omega
              obtain rfl : K = L := by rw [← unhide HK, ← unhide HL]; exact cnt_end (fun x hx => (unhide TK).out x (Or.inr hx))
              have CP := hide (promised_any wr ((unhide A3').below (unhide BX2)))
              have B4 := hide (below_far (unhide B3) (unhide BX2))
              go_wp2_with (go_at_call 20; refine (unhide CP).mono ?_; rintro e w' ⟨rfl, hw⟩; replace hw := hw.symm; subst hw)
              go_ret
              exact ⟨rfl, unhide B4⟩
end Go.Proofs.Ytiibedgobhhikaa

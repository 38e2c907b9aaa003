/- LinkPeers: the walk. -/
import Derived.Test.YtkanolmcaoecgaaLSpec
import Derived.Test.YtkanolmcaoecgaaLArgs
namespace Go.Proofs.Ytkanolmcaoecgaa
open Go.RowKit Go.Maps

/-- cells that are truth values. -/
def Bools (cs : Array Value) (n : Nat) (f : Nat → Bool) : Prop := cs.size = n ∧ ∀ j, j < n → cs[j]? = some (.bool (f j))
theorem Bools.set {cs : Array Value} {n : Nat} {f : Nat → Bool} (h : Bools cs n f) (k : Nat) (_hk : k < n) : Bools (cs.setIfInBounds k (.bool true)) n fun j => f j || decide (j = k) := by
  refine ⟨by simp [h.1], fun j hj => ?_⟩
  rw [Array.getElem?_setIfInBounds]
  by_cases e : k = j
  · subst e; simp [h.1, hj]
  · rw [if_neg e, h.2 j hj]; simp only; rw [decide_eq_false (fun x : j = k => e x.symm), Bool.or_false]
theorem bools_zero (n : Nat) : Bools (Array.replicate n (.bool false)) n fun _ => false := ⟨by simp, fun j hj => by simp [hj]⟩
/-- what was heard of a peer of which only numbers below 30, in one life, came. -/
def Of (g : Hd) (f : Nat → Bool) : Prop := ∃ S, Sees g S ∧ (∀ n, n < 30 → S n = f n) ∧ g.top ≤ 29 ∧ (g.life = 7 ∨ g = Hd.none ∧ ∀ n, S n = false)
theorem of_none : Of Hd.none fun _ => false := ⟨fun _ => false, sees_none 0, fun _ _ => rfl, by decide, Or.inr ⟨rfl, fun _ => rfl⟩⟩
theorem Of.known {g : Hd} {f : Nat → Bool} (h : Of g f) {n : Nat} (h1 : 1 ≤ n) (h2 : n < 30) (hf : f n = true) : takeE g 7 (n : Int) = 7 ∧ g.life = 7 := by
  obtain ⟨S, hs, he, ht, hl⟩ := h
  have hS : S n = true := by rw [he n h2]; exact hf
  rcases hl with hl | ⟨_, hl⟩
  · exact ⟨takeE_known hs (by decide) h1 (by rw [hl]; rfl) (Or.inr hS), hl⟩
  · rw [hl n] at hS; cases hS
theorem Of.free {g : Hd} {f : Nat → Bool} (h : Of g f) {n : Nat} (h1 : 1 ≤ n) (h2 : n < 30) (hf : f n = false) : takeE g 7 (n : Int) = 0 ∧ (g.taking 7 n).life = 7 ∧ Of (g.taking 7 n) fun j => f j || decide (j = n) := by
  obtain ⟨S, hs, he, ht, hl⟩ := h
  have hS : S n = false := by rw [he n h2]; exact hf
  rcases hl with hl | ⟨rfl, hl⟩
  · have hlt : ¬ g.life < 7 := by omega
    have e7 : (g.taking 7 n).life = 7 := by rw [taking_life, if_neg hlt, hl]
    refine ⟨takeE_free hs (by decide) h1 (by rw [hl]; rfl) (by omega) hS, e7, _, sees_same hs hlt n (by omega), fun j hj => by simp only; rw [he j hj], ?_, Or.inl e7⟩
    rw [taking_top, if_neg hlt]; omega
  · have hlt : Hd.none.life < 7 := by decide
    have e7 : (Hd.none.taking 7 n).life = 7 := by rw [taking_life, if_pos hlt]
    refine ⟨takeE_newer _ (by omega) (by decide), e7, _, sees_newer hlt n, fun j hj => by simp only; rw [← he j hj, hl j, Bool.false_or], ?_, Or.inl e7⟩
    rw [taking_top, if_pos hlt]; omega

/-- the box of ninety, and the link, go alike. -/
def PeAt (base : Nat) (w0 w : World) (A p s q : Nat) (ref k : Nat) : Prop :=
  ∃ (heard : Int → Hd) (cs : Array Value) (f : Nat → Bool), w.heap[A]? = some (.cells cs 48 (0, 0)) ∧ Bools cs 90 f ∧ Lk w p s q 1 (fun _ => 0) heard ref k ∧ (∀ P : Nat, P < 3 → Of (heard (P : Int)) fun n => f (P * 30 + n)) ∧ heard 5 = Hd.none ∧ Below base w0 w

theorem zero_a3 (w : World) : (zeroValue 48).run Try.prog w = .ok (.agg (Array.replicate 90 (.bool false))) w := by kernel_rfl

set_option maxRecDepth 20000 in
set_option maxHeartbeats 1000000 in
theorem peers_walk (ao : Option Addr) (n cap : Nat) (ys : List Int) (w : World) (hy : ys.length = n) (hm : n ≤ maxLen) (hi : Ints w ao ys) (hyf : ∀ y ∈ ys, (Lit.int .i64 y).wf = true) :
    Calls Try.prog 7 #[.slice ao n cap] w fun e w' => e = .returned (.bool true) ∧ Below w.heap.size w w' := by
  obtain ⟨Z, hZ⟩ : ∃ Z, Array.replicate 90 (Value.bool false) = Z := ⟨_, rfl⟩
  have ZB : Hid (Bools Z 90 fun _ => false) := by rw [← hZ]; exact bools_zero 90
  have zz := zero_a3
  rw [hZ] at zz
  clear hZ
  have KN := hide (known_any w)
  have HY := hide hy
  have HI := hide hi
  have HYF := hide hyf
  have hm' : n ≤ 9223372036854775807 := by unfold maxLen at hm; omega
  clear hy hi hm hyf
  go_enter Try.func7, Try.ntmps7
  go_wp2_with fail
  refine (unhide KN).mono ?_
  rintro e w1 ⟨rfl, b1⟩
  have B1 := hide b1
  have NW := hide (new_at 0 1 w1)
  clear b1 KN
  go_wp2_with fail
  refine (unhide NW).mono ?_
  rintro e w3 ⟨⟨p, s, q, rfl, l3, hp, hs, hq⟩, b3⟩
  have s1 := (unhide B1).size
  have PB : Hid (w.heap.size ≤ p ∧ w.heap.size ≤ s ∧ w.heap.size ≤ q) := ⟨Nat.le_trans s1 hp, Nat.le_trans s1 hs, Nat.le_trans s1 hq⟩
  obtain ⟨W, hW⟩ : ∃ W, w3.alloc (.cells Z 48) = W := ⟨_, rfl⟩
  have bW : Below w3.heap.size w3 W := by rw [← hW]; exact (Below.refl _ w3).alloc (Nat.le_refl _) _
  have xW : W.heap[w3.heap.size]? = some (.cells Z 48 (0, 0)) := by rw [← hW]; exact heap_alloc_new _ _
  have hA : w.heap.size ≤ w3.heap.size := Nat.le_trans s1 b3.size
  have S0 : Hid (PeAt w.heap.size w W w3.heap.size p s q 0 0) := ⟨fun _ => Hd.none, _, fun _ => false, xW, unhide ZB, l3.below bW, fun _ _ => of_none, rfl, ((unhide B1).trans (b3.mono s1)).trans (bW.mono hA)⟩
  have AB : Hid (w.heap.size ≤ w3.heap.size) := hA
  have AP : Hid (w3.heap.size ≠ p ∧ w3.heap.size ≠ s ∧ w3.heap.size ≠ q) := ⟨fun e => by have := l3.lt.1; omega, fun e => by have := l3.lt.2.1; omega, fun e => by have := l3.lt.2.2; omega⟩
  obtain ⟨A, hAA⟩ : ∃ A, w3.heap.size = A := ⟨_, rfl⟩
  rw [hAA] at S0 AP AB
  have HAA := hide hAA
  have HW := hide hW
  clear l3 hp hs hq b3 s1 bW xW hA hW NW B1 hAA
  go_upto_region 7 with fail
  rw [unhide HW, unhide HAA]
  clear HW HAA zz ZB
  go_loopg [4, 6] 80 (fun gg rv iv wr => ∃ (k ref : Nat), k + gg = 80 ∧ k ≤ n ∧ iv = .int .i64 (k : Int) ∧ rv = .int .i64 (ref : Int) ∧ PeAt w.heap.size w wr A p s q ref k)
  case atStart => exact ⟨0, 0, by omega, Nat.zero_le _, rfl, rfl, unhide S0⟩
  case round =>
    obtain ⟨k, ref, hgk, hkn, rfl, rfl, hst⟩ := hrel
    have hk60 : k ≤ 80 := by omega
    obtain ⟨heard, cs, f, hbox, hbs, hlk, hof, h5, hlow⟩ := hst
    have hsz := hlow.size
    have hrk : ref ≤ k := by obtain ⟨Ds, Dh, a1, a2, a3, a4, a5, a6, a7, a8, a9⟩ := hlk; exact a9
    by_cases hlt : k < n
    · by_cases h60 : k < 80
      · obtain ⟨y, hyk⟩ : ∃ y, ys[k]? = some y := ⟨_, List.getElem?_eq_getElem (by rw [unhide HY]; exact hlt)⟩
        obtain ⟨a, rfl, ca⟩ := ((unhide HI).sub hlow) k y hyk
        have hkI : (k : Int) < (n : Int) := by omega
        have hkJ : (k : Int) < 80 := by omega
        go_upto_region 9 with fail
        go_quiet (first
          | (go_at_call_of 9 (Value.int .i64 y); exact Calls.quiet_of_same (within_any _ 3 _ (by decide) (by decide)))
          | (go_at_call 9; exact Calls.quiet_of_same (within_any _ 29 _ (by decide) (by decide))))
        obtain ⟨P, hP⟩ : ∃ P : Nat, y % 3 = (P : Int) := ⟨(y % 3).toNat, by omega⟩
        have hP3 : P < 3 := by omega
        obtain ⟨z, hz⟩ : ∃ z, IntKind.i64.wrap (y.tdiv 3) % 29 = z := ⟨_, rfl⟩
        have hz29 : 0 ≤ z ∧ z < 29 := by omega
        obtain ⟨N, hN⟩ : ∃ N : Nat, IntKind.i64.wrap (1 + z) = (N : Int) := ⟨(1 + z).toNat, by
          simp only [IntKind.wrap, IntKind.bits, IntKind.signed]
          simp
          omega⟩
        have hNz : (N : Int) = 1 + z := by
          rw [← hN]
          simp only [IntKind.wrap, IntKind.bits, IntKind.signed]
          simp
          omega
        have hN1 : 1 ≤ N := by omega
        have hN30 : N < 30 := by omega
        rw [hP, hz, hN]
        obtain ⟨V, hV⟩ : ∃ V, wr.drewN nq = V := ⟨_, rfl⟩
        rw [hV]
        have bV : Below wr.heap.size wr V := by rw [← hV]; exact drewN_below wr nq
        have boxV : V.heap[A]? = some (.cells cs 48 (0, 0)) := (bV.block A (blk_lt' hbox)).trans hbox
        have lkV := hlk.below bV
        have lowV := hlow.trans (bV.mono hsz)
        have HG := hide hgk
        clear hV bV hbox hlk hlow hP hz hN hNz ca hyk hz29 hgk S0
        cases hf : f (P * 30 + N) with
        | true =>
          obtain ⟨te, tl⟩ := (hof P hP3).known hN1 hN30 hf
          have TK := hide (take_no (base := w.heap.size) (P : Int) 7 (N : Int) 7 V (wf_nat (by omega)) (wf_lit 7 (by omega)) (wf_nat (by omega)) (by omega) (unhide PB) lowV.size lkV te (by decide))
          obtain ⟨ref', hr'⟩ : ∃ ref', ref + 1 = ref' := ⟨_, rfl⟩
          have er : (ref : Int) + 1 = (ref' : Int) := by omega
          have wrr : IntKind.i64.wrap (ref' : Int) = (ref' : Int) := by
            simp only [IntKind.wrap, IntKind.bits, IntKind.signed]
            simp
            omega
          rw [hr'] at TK
          clear hr'
          have OF := hide hof
          have BX := hide boxV
          have BS := hide hbs
          have H5 := hide h5
          have LV := hide lowV
          have TE := hide te
          have TL := hide tl
          have HF := hide hf
          clear hof boxV hbs h5 lowV lkV te tl hf
          go_wp2_with fail
          refine (unhide TK).mono ?_
          rintro e w4 ⟨rfl, l4, k4⟩
          obtain ⟨n1, n2, n3⟩ := unhide AP
          have b4 : w4.heap[A]? = some (.cells cs 48 (0, 0)) := (k4.2 A (blk_lt' (unhide BX)) (fun h => by rcases h with h | h | h; exact n1 h; exact n2 h; exact n3 h)).trans (unhide BX)
          have c4 : w4.cell? ⟨A, P * 30 + N, none⟩ = some (.bool true) := by rw [← unhide HF]; exact bcell b4 ((unhide BS).2 _ (by omega))
          have f4 : w4.frozen? ⟨A, P * 30 + N, none⟩ = false := free_of_block b4
          obtain ⟨W5, hW5⟩ : ∃ W5, w4.setCell ⟨A, P * 30 + N, none⟩ (.bool true) = W5 := ⟨_, rfl⟩
          have k5 : ∀ b, b ≠ A → W5.heap[b]? = w4.heap[b]? := fun b hb => by rw [← hW5]; exact Below.heap_setCell w4 ⟨A, P * 30 + N, none⟩ _ b hb
          have x5 : W5.heap[A]? = some (.cells (cs.setIfInBounds (P * 30 + N) (.bool true)) 48 (0, 0)) := by rw [← hW5, setCell_block b4]
          have l5 : Lk W5 p s q 1 (fun _ => 0) heard ref' (k + 1) := l4.kept (k5 p n1.symm) (k5 s n2.symm) (k5 q n3.symm)
          have low5 : Below w.heap.size w W5 := by rw [← hW5]; exact ((unhide LV).trans k4.1).setCell (p := ⟨A, P * 30 + N, none⟩) (unhide AB) _
          have RF := hide (refused_any W5 l5)
          have LF := life_any (P : Int) W5 (wf_nat (by omega)) l5
          rw [show ((heard (P : Int)).life : Int) = 7 by rw [unhide TL]; rfl] at LF
          have HLF := hide LF
          have FIN : Hid (PeAt w.heap.size w W5 A p s q ref' (k + 1)) := by
            refine ⟨_, _, _, x5, (unhide BS).set _ (by omega), l5, fun P' hP' => ?_, unhide H5, low5⟩
            obtain ⟨S, z1, z2, z3⟩ := unhide OF P' hP'
            refine ⟨S, z1, fun n hn => ?_, z3⟩
            rw [z2 n hn]
            show f (P' * 30 + n) = (f (P' * 30 + n) || decide (P' * 30 + n = P * 30 + N))
            by_cases e : P' * 30 + n = P * 30 + N
            · rw [e, unhide HF]; rfl
            · rw [decide_eq_false e, Bool.or_false]
          have HW5 := hide hW5
          clear n1 n2 n3 b4 k5 x5 l5 low5 l4 k4 LF hW5 TK
          go_upto_region 16 with fail
          rw [unhide HW5]
          clear HW5 c4 f4
          go_wp2_with fail
          refine (unhide RF).mono ?_
          rintro e w6 ⟨rfl, rfl⟩
          go_wp2_with fail
          refine (unhide HLF).mono ?_
          rintro e w6 ⟨rfl, rfl⟩
          go_wp2
          go_roundg (80 - (k + 1))
          case measure => have := unhide HG; omega
          case rel => exact ⟨k + 1, _, by omega, by omega, by go_num, rfl, unhide FIN⟩
        | false =>
          obtain ⟨te, tl, tof⟩ := (hof P hP3).free hN1 hN30 hf
          have TK := hide (take_yes (base := w.heap.size) (P : Int) 7 (N : Int) V (wf_nat (by omega)) (wf_lit 7 (by omega)) (wf_nat (by omega)) (by omega) (unhide PB) lowV.size lkV te)
          have OF := hide hof
          have BX := hide boxV
          have BS := hide hbs
          have H5 := hide h5
          have LV := hide lowV
          have TE := hide te
          have TL := hide tl
          have HF := hide hf
          have TOF := hide tof
          clear hof boxV hbs h5 lowV lkV te tl hf tof
          go_wp2_with fail
          refine (unhide TK).mono ?_
          rintro e w4 ⟨rfl, l4, k4⟩
          rw [Int.toNat_natCast, show (7 : Int).toNat = 7 from rfl] at l4
          obtain ⟨n1, n2, n3⟩ := unhide AP
          have b4 : w4.heap[A]? = some (.cells cs 48 (0, 0)) := (k4.2 A (blk_lt' (unhide BX)) (fun h => by rcases h with h | h | h; exact n1 h; exact n2 h; exact n3 h)).trans (unhide BX)
          have c4 : w4.cell? ⟨A, P * 30 + N, none⟩ = some (.bool false) := by rw [← unhide HF]; exact bcell b4 ((unhide BS).2 _ (by omega))
          have f4 : w4.frozen? ⟨A, P * 30 + N, none⟩ = false := free_of_block b4
          obtain ⟨W5, hW5⟩ : ∃ W5, w4.setCell ⟨A, P * 30 + N, none⟩ (.bool true) = W5 := ⟨_, rfl⟩
          have k5 : ∀ b, b ≠ A → W5.heap[b]? = w4.heap[b]? := fun b hb => by rw [← hW5]; exact Below.heap_setCell w4 ⟨A, P * 30 + N, none⟩ _ b hb
          have x5 : W5.heap[A]? = some (.cells (cs.setIfInBounds (P * 30 + N) (.bool true)) 48 (0, 0)) := by rw [← hW5, setCell_block b4]
          have l5 : Lk W5 p s q 1 (fun _ => 0) (upH heard (P : Int) ((heard (P : Int)).taking 7 N)) ref (k + 1) := l4.kept (k5 p n1.symm) (k5 s n2.symm) (k5 q n3.symm)
          have low5 : Below w.heap.size w W5 := by rw [← hW5]; exact ((unhide LV).trans k4.1).setCell (p := ⟨A, P * 30 + N, none⟩) (unhide AB) _
          have RF := hide (refused_any W5 l5)
          have LF := life_any (P : Int) W5 (wf_nat (by omega)) l5
          rw [show (((upH heard (P : Int) ((heard (P : Int)).taking 7 N)) (P : Int)).life : Int) = 7 by rw [upH_same, unhide TL]; rfl] at LF
          have HLF := hide LF
          have FIN : Hid (PeAt w.heap.size w W5 A p s q ref (k + 1)) := by
            refine ⟨_, _, _, x5, (unhide BS).set _ (by omega), l5, fun P' hP' => ?_, by rw [upH_other _ _ (by omega)]; exact unhide H5, low5⟩
            by_cases e : P' = P
            · subst e
              rw [upH_same]
              have e2 : (fun n => f (P' * 30 + n) || decide (P' * 30 + n = P' * 30 + N)) = (fun n => f (P' * 30 + n) || decide (n = N)) := by
                funext n
                congr 1
                by_cases h : n = N
                · rw [decide_eq_true h, decide_eq_true (by omega)]
                · rw [decide_eq_false h, decide_eq_false (by omega)]
              rw [e2]
              exact unhide TOF
            · rw [upH_other _ _ (by omega)]
              obtain ⟨S, z1, z2, z3⟩ := unhide OF P' hP'
              exact ⟨S, z1, fun n hn => by simp only; rw [z2 n hn, decide_eq_false (by omega), Bool.or_false], z3⟩
          have HW5 := hide hW5
          clear n1 n2 n3 b4 k5 x5 l5 low5 l4 k4 LF hW5 TK
          go_upto_region 16 with fail
          rw [unhide HW5]
          clear HW5 c4 f4
          go_wp2_with fail
          refine (unhide RF).mono ?_
          rintro e w6 ⟨rfl, rfl⟩
          go_wp2_with fail
          refine (unhide HLF).mono ?_
          rintro e w6 ⟨rfl, rfl⟩
          go_wp2
          go_roundg (80 - (k + 1))
          case measure => have := unhide HG; omega
          case rel => exact ⟨k + 1, _, by omega, by omega, by go_num, rfl, unhide FIN⟩
      · have h60I : ¬ (k : Int) < 80 := by omega
        have hkI : (k : Int) < (n : Int) := by omega
        have RF := life_any (5 : Int) wr (wf_lit 5 (by omega)) hlk
        rw [h5] at RF
        have HRF := hide RF
        have HL := hide hlow
        clear hlk hbox hlow hgk S0 hof h5 hbs RF
        go_wp2_with fail
        refine (unhide HRF).mono ?_
        rintro e w4 ⟨rfl, rfl⟩
        go_wp2
        go_ret
        exact ⟨rfl, unhide HL⟩
    · have hkI : ¬ (k : Int) < (n : Int) := by omega
      have RF := life_any (5 : Int) wr (wf_lit 5 (by omega)) hlk
      rw [h5] at RF
      have HRF := hide RF
      have HL := hide hlow
      clear hlk hbox hlow hgk S0 hof h5 hbs RF
      go_wp2_with fail
      refine (unhide HRF).mono ?_
      rintro e w4 ⟨rfl, rfl⟩
      go_wp2
      go_ret
      exact ⟨rfl, unhide HL⟩
end Go.Proofs.Ytkanolmcaoecgaa

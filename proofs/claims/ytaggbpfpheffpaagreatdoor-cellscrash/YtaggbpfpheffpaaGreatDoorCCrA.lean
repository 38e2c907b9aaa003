/- Open of cells, whatever the power has left; what a tape that is let go answers. -/
import Derived.Test.YtaggbpfpheffpaaGreatDoorCEndW
namespace Go.Proofs.YtaggbpfpheffpaaGreatDoor
open Go.RowKit Go.Maps

theorem allL (base l p : Nat) (q : Option Nat) (s : St) (n : Nat) (xs : List (List Nat)) (g a : Addr) (w : World) (h : Lg base w l p q s n) (hbs : s.bs = cats xs) (hS : Start w g a) (hx : Fit xs) (hn : takes xs = n) (hroom : s.room ≤ 1000000000) (k : Nat) (hk : xs.length = k) :
    Calls Tryz.prog 27 #[.pointer (some ⟨l, 0, none⟩)] w fun e w' => ∃ ao cap, e = .returned (.slice ao k cap) ∧ RowsArg w' ao xs ∧ (ao = none → cap = 0) ∧ Below w.heap.size w w' := by
  refine (wall_any base l p q s n g a w h hS xs hx [] (by rw [hbs, List.append_nil]) hn hroom).mono ?_
  rintro e w' ⟨fv, vs, rfl, ho, hr, hb⟩
  rw [hr.1] at ho
  obtain ⟨ao, cap, rfl, _, _, hc, hra⟩ := rows_arg ho rfl hr.vals
  exact ⟨ao, cap, by rw [hk], hra, hc, hb⟩

set_option maxRecDepth 20000 in
set_option maxHeartbeats 1000000 in
theorem copenL (base p : Nat) (q : Option Nat) (s : St) (n : Nat) (f : Int → List Nat) (g a : Addr) (w : World) (h : Tp base w p q s) (hS : Start w g a) (hb : base ≤ w.heap.size) (hd : s.dead = false) (hbs : s.bs = cats (rows f)) (hx : Fit (rows f)) (hn : takes (rows f) = n) (hroom : s.room ≤ 1000000000) (hw : Within f) (hlen : ∀ x, (f x).length ≤ 1000000) :
    Calls Tryz.prog 11 #[.pointer (some ⟨p, 0, none⟩)] w fun e w' => ∃ cp l b, e = .returned (.tuple #[.pointer (some ⟨cp, 0, none⟩), .int .i64 0]) ∧ w.heap.size ≤ cp ∧ w.heap.size ≤ l ∧ w.heap.size ≤ b ∧ Cs base w' cp l b f 8 ∧ Lg base w' l p q s n ∧ Below w.heap.size w w' := by
  have OP := hide (open_whole base p q s g a w h hS hb hd (rows f) hx hbs n hn hroom)
  have HS := hide hS
  have HX := hide hx
  have HN := hide hn
  have HW := hide hw
  have HLN := hide hlen
  clear h hS hx hn hw hlen
  go_enter Tryz.func11, Tryz.ntmps11
  go_wp2_with fail
  refine (unhide OP).mono ?_
  rintro e w1 ⟨l, rfl, hl, lg, b1⟩
  have s1 := b1.size
  obtain ⟨W2, hW2⟩ : ∃ W2, w1.alloc (.map #[] 0) = W2 := ⟨_, rfl⟩
  have b2 : Below w1.heap.size w1 W2 := by rw [← hW2]; exact (Below.refl _ w1).alloc (Nat.le_refl _) _
  have hv2 : Hv w.heap.size W2 w1.heap.size (fun _ => []) 0 := by rw [← hW2]; exact Hv.made _ w1 s1
  have lg2 := lg.below b2
  have BB2 := hide (b1.trans (b2.mono s1))
  have s2 := b2.size
  obtain ⟨k, hk⟩ : ∃ k, (rows f).length = k := ⟨_, rfl⟩
  have hkc : (cellsOf f).length = k := by rw [← hk, rows, recs_len]
  have hk8 : k ≤ 8 := by rw [← hkc]; exact cells_len f
  have AL := hide (allL base l p q s n (rows f) g a W2 lg2 hbs ((unhide HS).below (unhide BB2)) (unhide HX) (unhide HN) hroom k hk)
  have HV2 := hide hv2
  have LG2 := hide lg2
  have HW2 := hide hW2
  have HFT := hide (fun j (hj : lfoot l p q j) => (lg.lt j hj).2)
  have hmm := @run_makeMap Tryz.prog
  have HKC := hide hkc
  clear lg b1 b2 hW2 hv2 lg2 hk hkc OP
  go_upto_region 5 with fail
  rw [unhide HW2]
  go_wp2_with fail
  refine (unhide AL).mono ?_
  rintro e w3 ⟨ao, cap, rfl, ra, _, b3⟩
  have s3 := b3.size
  have PA := hide (parsed_any ao k cap (cellsOf f) (unhide HKC) (by omega) w3 ra (cells_mem (unhide HLN)))
  have HV3 := hide ((unhide HV2).below b3)
  have LG3 := hide ((unhide LG2).below b3)
  have BB3 := hide ((unhide BB2).trans (b3.mono (by omega)))
  clear ra b3 AL HV2 LG2 BB2
  go_wp2_with fail
  refine (unhide PA).mono ?_
  rintro e w4 ⟨ao4, cap4, rfl, ca, b4⟩
  have s4 := b4.size
  have SE := hide (set_any ao4 k cap4 (cellsOf f) (unhide HKC) (by omega) w4 ((unhide HV3).below b4) (by omega) (by omega) ca (cells_mem (unhide HLN)))
  have LG4 := hide ((unhide LG3).below b4)
  have BB4 := hide ((unhide BB3).trans (b4.mono (by omega)))
  clear ca b4 PA HV3 LG3 BB3
  go_wp2_with fail
  refine (unhide SE).mono ?_
  rintro e w5 ⟨rfl, hv5, k5⟩
  rw [setF_cells (unhide HW)] at hv5
  have hkb : ∀ j, lfoot l p q j → ¬ j = w1.heap.size := fun j hj e => by have := unhide HFT j hj; omega
  have LG5 := hide ((unhide LG4).kept k5 hkb)
  have BB5 := hide ((unhide BB4).trans k5.1)
  have HV5 := hide ((hv5.rebase hb).mono (by omega : 0 + k ≤ 8))
  have s5 := k5.size
  clear hv5 k5 SE LG4 BB4 hkb
  obtain ⟨W6, hW6⟩ : ∃ W6, w5.alloc (.cells #[.pointer (some ⟨l, 0, none⟩), .map (some w1.heap.size)] 68) = W6 := ⟨_, rfl⟩
  have b6 : Below w5.heap.size w5 W6 := by rw [← hW6]; exact (Below.refl _ w5).alloc (Nat.le_refl _) _
  have x6 : W6.heap[w5.heap.size]? = some (.cells #[.pointer (some ⟨l, 0, none⟩), .map (some w1.heap.size)] 68 (0, 0)) := by rw [← hW6]; exact heap_alloc_new _ _
  have FIN : Hid (Cs base W6 w5.heap.size l w1.heap.size f 8 ∧ Lg base W6 l p q s n ∧ Below w.heap.size w W6) := ⟨⟨by omega, x6, (unhide HV5).below b6⟩, (unhide LG5).below b6, (unhide BB5).trans (b6.mono (by omega))⟩
  have HW6 := hide hW6
  clear b6 x6 hW6 LG5 BB5 HV5
  go_wp2
  go_ret2
  rw [unhide HW6]
  exact ⟨_, l, _, rfl, by omega, hl, s1, unhide FIN⟩

theorem Rest.below {base : Nat} {w0 w w' : World} {p : Nat} {g a : Addr} {f : Int → List Nat} {k : Nat} {left : Int} {dead : Bool} (h : Rest base w0 w p g a f k left dead) (hb : Below w.heap.size w w') : Rest base w0 w' p g a f k left dead := by
  obtain ⟨q, n, ops, h1, h3, h4, h5, h6, h7, h8, h9, h10⟩ := h
  exact ⟨q, n, ops, h1.below hb, h3, h4, h5, h6, h7, h8.below hb, h9.trans (hb.mono h10), Nat.le_trans h10 hb.size⟩
theorem ropenL {base : Nat} {w0 : World} {p : Nat} {g a : Addr} {f : Int → List Nat} {k : Nat} {left : Int} (w : World) (h : Rest base w0 w p g a f k left false) :
    Calls Tryz.prog 11 #[.pointer (some ⟨p, 0, none⟩)] w fun e w' => ∃ v, e = .returned v ∧ Rest base w0 w' p g a f k left false ∧ Below w.heap.size w w' := by
  have hr := h
  obtain ⟨q, n, ops, h1, h3, h4, h5, h6, h7, h8, h9, h10⟩ := h
  refine (copenL base p q _ n f g a w h1 h8 h10 rfl rfl h6 h3 (by show 400000 ≤ 1000000000; decide) h4 (fun x => Nat.le_trans (h5 x) (by decide))).mono ?_
  rintro e w' ⟨cp', l', b', rfl, -, -, -, -, -, bb⟩
  exact ⟨_, rfl, hr.below bb, bb⟩
theorem rstop {base : Nat} {w0 : World} {p : Nat} {g a : Addr} {f : Int → List Nat} {k : Nat} {left : Int} {dead : Bool} (x : Int) (hz : 4 ≤ base) (w : World) (h : Rest base w0 w p g a f k left dead) :
    Calls Tryz.prog 19 #[.pointer (some ⟨p, 0, none⟩), .int .i64 x] w fun e w' => e = .returned (.tuple #[]) ∧ Rest base w0 w' p g a f k x dead ∧ Kept base (fun j => j = p) w w' := by
  obtain ⟨q, n, ops, h1, h3, h4, h5, h6, h7, h8, h9, h10⟩ := h
  refine (stop_any base p q _ x w h1).mono ?_
  rintro e w' ⟨rfl, t', k'⟩
  exact ⟨rfl, ⟨q, n, ops, t', h3, h4, h5, h6, h7, h8.keptd k' hz, h9.trans k'.1, Nat.le_trans h10 k'.1.size⟩, k'⟩
theorem ldead {base : Nat} {w0 : World} {cp l p : Nat} {g a : Addr} {f : Int → List Nat} {k : Nat} {left : Int} {dead : Bool} (w : World) (h : Live base w0 w cp l p g a f k left dead) :
    Calls Tryz.prog 20 #[.pointer (some ⟨p, 0, none⟩)] w fun e w' => e = .returned (.bool dead) ∧ w' = w := by
  obtain ⟨b, c, q, n, ops, h1, h2, -⟩ := h
  exact dead_any base p q _ w h2.tape
/-- Put, whatever the power does, of none too. -/
theorem lputs {base : Nat} {w0 : World} {cp l p : Nat} {g a : Addr} {f : Int → List Nat} {k : Nat} {left : Int} {dead : Bool} (lst : List (Int × List Nat)) (hf : Fine lst) (m : Nat) (hm : lst.length = m) (hm8 : m ≤ 1000) (ao : Option Addr) (cap : Nat) (hk : k ≤ 1000) (hl : left ≤ 1000) (hz : 4 ≤ base) (w : World) (h : Live base w0 w cp l p g a f k left dead) (hat : CAt w ao lst) :
    Calls Tryz.prog 14 #[.pointer (some ⟨cp, 0, none⟩), .slice ao m cap] w fun e w' => ∃ (R : Nat) (left' : Int) (dead' : Bool), e = .returned (.int .i64 (R : Int)) ∧ (R = 0 ∨ R = 13) ∧ left' ≤ 1000 ∧ Live base w0 w' cp l p g a (if R = 0 then setF f lst else f) (k + m) left' dead' ∧ Kept base (fun j => (j = l ∨ j = p) ∨ j = cp) w w' := by
  by_cases h0 : 0 < m
  · refine (lput lst hf m hm h0 hm8 ao cap hk hl hz w h hat).mono ?_
    rintro e w' ⟨rfl, l', k'⟩
    refine ⟨_, _, _, rfl, ?_, ?_, l', k'⟩
    · unfold turn
      split
      · exact Or.inr rfl
      · split
        · exact Or.inr rfl
        · split <;> exact Or.inl rfl
    · unfold turn
      split
      · exact hl
      · split
        · show (0 : Int) ≤ 1000; omega
        · split
          · show left - 1 ≤ 1000; omega
          · exact hl
  · obtain rfl : m = 0 := by omega
    obtain rfl : lst = [] := List.eq_nil_of_length_eq_zero hm
    refine (Put_none cp ao cap w).mono ?_
    rintro e w' ⟨rfl, rfl⟩
    exact ⟨0, left, dead, rfl, Or.inl rfl, hl, h, Kept.refl _ _ _⟩
end Go.Proofs.YtaggbpfpheffpaaGreatDoor

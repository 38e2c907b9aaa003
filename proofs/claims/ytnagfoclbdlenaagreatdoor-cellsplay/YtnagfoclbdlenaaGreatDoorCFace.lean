/- cells: Get, All, Open: contracts. -/
import Derived.Test.YtnagfoclbdlenaaGreatDoorCParse
import Derived.Test.YtnagfoclbdlenaaGreatDoorWNice
namespace Go.Proofs.YtnagfoclbdlenaaGreatDoor
open Go.RowKit Go.Maps

/-- the records of what a map holds. -/
def rows (f : Int → List Nat) : List (List Nat) := recsOf (cellsOf f)
/-- cells in memory: block cp; the log and the map. -/
def Cs (base : Nat) (w : World) (cp l b : Nat) (f : Int → List Nat) (c : Nat) : Prop :=
  base ≤ cp ∧ w.heap[cp]? = some (.cells #[.pointer (some ⟨l, 0, none⟩), .map (some b)] 68 (0, 0)) ∧ Hv base w b f c
theorem Cs.below {base : Nat} {w w' : World} {cp l b : Nat} {f : Int → List Nat} {c : Nat} (h : Cs base w cp l b f c) (hb : Below w.heap.size w w') : Cs base w' cp l b f c :=
  ⟨h.1, (hb.block cp (blk_lt' h.2.1)).trans h.2.1, h.2.2.below hb⟩
theorem Cs.log {base : Nat} {w : World} {cp l b : Nat} {f : Int → List Nat} {c : Nat} (h : Cs base w cp l b f c) : w.cell? ⟨cp, 0, none⟩ = some (.pointer (some ⟨l, 0, none⟩)) := (cell_of_block h.2.1).trans rfl
theorem Cs.have {base : Nat} {w : World} {cp l b : Nat} {f : Int → List Nat} {c : Nat} (h : Cs base w cp l b f c) : w.cell? ⟨cp, 1, none⟩ = some (.map (some b)) := (cell_of_block h.2.1).trans rfl

theorem clone_none (w : World) : Calls Tryz.prog 33 #[.slice none 0 0] w fun e w' => e = .returned (.slice none 0 0) ∧ w' = w := by
  have hq := @Lib.run_eql_slice_nil Tryz.prog
  go_enter Tryz.func33, Tryz.ntmps33
  go_wp2
  go_ret
  exact ⟨rfl, rfl⟩
/-- Get. -/
theorem get_any {base cp l b c : Nat} {f : Int → List Nat} (x : Int) (hx : wf64 x) (w : World) (h : Cs base w cp l b f c) (hlen : (f x).length ≤ 1000000) :
    Calls Tryz.prog 22 #[.pointer (some ⟨cp, 0, none⟩), .int .i64 x] w fun e w' => ∃ v, e = .returned v ∧ Own w.heap.size w' v (f x) ∧ (f x = [] → v = .slice none 0 0) ∧ Below w.heap.size w w' := by
  have c1 := h.have
  obtain ⟨v, hlook, hval⟩ := h.2.2.look hx
  have lk := hlook w rfl
  have HV := hide hval
  clear hlook hval h
  rcases unhide HV with ⟨e0, rfl⟩ | ⟨e0, ov⟩
  · have CN := hide (clone_none w)
    have E0 := hide e0
    clear e0 HV
    go_enter Tryz.func22, Tryz.ntmps22
    go_wp2_with fail
    refine (unhide CN).mono ?_
    rintro e w1 ⟨rfl, hw⟩
    replace hw := hw.symm
    subst hw
    go_wp2
    go_ret
    exact ⟨_, rfl, by rw [unhide E0]; exact Own.nil _ _, fun _ => rfl, Below.refl _ _⟩
  · obtain ⟨va, vc, rfl, hvl, hvm, hvb, hvn, hvs⟩ := ov.slice
    obtain ⟨m, hm⟩ : ∃ m, (f x).length = m := ⟨_, rfl⟩
    obtain ⟨aa, rfl⟩ : ∃ aa, va = some aa := by
      cases va with
      | some aa => exact ⟨aa, rfl⟩
      | none => exact absurd (List.eq_nil_of_length_eq_zero (by have := hvn rfl; omega)) e0
    have CL := hide (clone_some aa m vc (f x) hm w hvb (by omega))
    rw [hm] at lk
    have E0 := hide e0
    clear e0 HV ov hvl hvm hvb hvn hvs hm hlen
    go_enter Tryz.func22, Tryz.ntmps22
    go_wp2_with fail
    refine (unhide CL).mono ?_
    rintro e w1 ⟨dv, rfl, od, b1⟩
    have OD := hide od
    have B1 := hide b1
    clear od b1 CL
    go_wp2
    go_ret
    exact ⟨dv, rfl, unhide OD, fun e => absurd e (unhide E0), unhide B1⟩
/-- All. -/
theorem all_any {base cp l b c : Nat} {f : Int → List Nat} (w : World) (h : Cs base w cp l b f c) (hc : c ≤ 1000000) (hlen : ∀ x, (f x).length ≤ 1000000) :
    Calls Tryz.prog 23 #[.pointer (some ⟨cp, 0, none⟩)] w fun e w' => ∃ v, e = .returned v ∧ CRow w.heap.size w' v (cellsOf f) ∧ Below w.heap.size w w' := by
  have c1 := h.have
  have LI := hide (listed_any w h.2.2 hc hlen)
  clear h hlen
  go_enter Tryz.func23, Tryz.ntmps23
  go_wp2_with fail
  refine (unhide LI).mono ?_
  rintro e w1 ⟨v, rfl, hr, b1⟩
  have HR := hide hr
  have B1 := hide b1
  clear hr b1 LI
  go_wp2
  go_ret
  exact ⟨v, rfl, unhide HR, unhide B1⟩

theorem setF_map (g f : Int → List Nat) (ks : List Int) (y : Int) : setF g (ks.map fun n => (n, f n)) y = if y ∈ ks then f y else g y := by
  induction ks generalizing g with
  | nil => simp [setF]
  | cons n ks ih =>
    have e : setF g ((n :: ks).map fun n => (n, f n)) = setF (upF g n (f n)) (ks.map fun n => (n, f n)) := rfl
    rw [e, ih]
    by_cases h1 : y ∈ ks
    · simp [h1]
    · by_cases h2 : y = n
      · subst h2; simp [h1, upF]
      · simp [h1, h2, upF]
/-- what lies at the numbers that there are. -/
def Within (f : Int → List Nat) : Prop := ∀ x, f x ≠ [] → 0 ≤ x ∧ x < 8
theorem setF_cells {f : Int → List Nat} (h : Within f) : setF (fun _ => []) (cellsOf f) = f := by
  funext y
  rw [cellsOf, setF_map]
  by_cases h1 : y ∈ keysOf f
  · rw [if_pos h1]
  · rw [if_neg h1]
    by_cases h2 : f y = []
    · exact h2.symm
    · exact absurd (keys_mem.2 ⟨h y h2, h2⟩) h1
theorem cells_mem {f : Int → List Nat} {m : Nat} (hlen : ∀ x, (f x).length ≤ m) : ∀ c ∈ cellsOf f, (0 ≤ c.1 ∧ c.1 < 8) ∧ c.2.length ≤ m := fun c hc => by
  obtain ⟨n, hn, rfl⟩ := List.mem_map.1 hc
  exact ⟨(keys_mem.1 hn).1, hlen n⟩
theorem cells_len (f : Int → List Nat) : (cellsOf f).length ≤ 8 := by rw [cellsOf, List.length_map]; exact keys_len f
theorem Hv.rebase {base base' : Nat} {w : World} {b : Nat} {f : Int → List Nat} {c : Nat} (h : Hv base w b f c) (hb : base' ≤ base) : Hv base' w b f c := by
  obtain ⟨h1, D, ho, h2, h3⟩ := h
  refine ⟨Nat.le_trans hb h1, D, ho, h2, fun x => ?_⟩
  rcases h3 x with e | ⟨e1, e2, v, e3, e4⟩
  · exact Or.inl e
  · exact Or.inr ⟨e1, e2, v, e3, e4.rebase hb⟩

set_option maxRecDepth 20000 in
set_option maxHeartbeats 1000000 in
theorem copen (base p : Nat) (q : Option Nat) (room syn ops n : Nat) (f : Int → List Nat) (g a : Addr) (w : World) (h : Tp base w p q (Ls room (rows f) syn ops)) (hS : Start w g a) (hb : base ≤ w.heap.size) (hx : Fit (rows f)) (hn : takes (rows f) = n) (hroom : room ≤ 1000000000) (hw : Within f) (hlen : ∀ x, (f x).length ≤ 1000000) :
    Calls Tryz.prog 11 #[.pointer (some ⟨p, 0, none⟩)] w fun e w' => ∃ cp l b, e = .returned (.tuple #[.pointer (some ⟨cp, 0, none⟩), .int .i64 0]) ∧ w.heap.size ≤ cp ∧ w.heap.size ≤ l ∧ w.heap.size ≤ b ∧ Cs base w' cp l b f 8 ∧ Lg base w' l p q (Ls room (rows f) syn ops) n ∧ Below w.heap.size w w' := by
  have OP := hide (nopen base p q room syn ops n (rows f) g a w h hS hb hx hn hroom)
  have HS := hide hS
  have HX := hide hx
  have HN := hide hn
  have HW := hide hw
  have HLN := hide hlen
  clear h hS hx hn hw hlen
  go_enter Tryz.func11, Tryz.ntmps11
  go_wp2_with fail
  refine (unhide OP).mono ?_
  rintro e w1 ⟨l, rfl, hl, lg, b1⟩
  have s1 := b1.size
  obtain ⟨W2, hW2⟩ : ∃ W2, w1.alloc (.map #[] 0) = W2 := ⟨_, rfl⟩
  have b2 : Below w1.heap.size w1 W2 := by rw [← hW2]; exact (Below.refl _ w1).alloc (Nat.le_refl _) _
  have hv2 : Hv w.heap.size W2 w1.heap.size (fun _ => []) 0 := by rw [← hW2]; exact Hv.made _ w1 s1
  have lg2 := lg.below b2
  have BB2 := hide (b1.trans (b2.mono s1))
  have s2 := b2.size
  obtain ⟨k, hk⟩ : ∃ k, (rows f).length = k := ⟨_, rfl⟩
  have hkc : (cellsOf f).length = k := by rw [← hk, rows, recs_len]
  have hk8 : k ≤ 8 := by rw [← hkc]; exact cells_len f
  have AL := hide (nall base l p q room syn ops n (rows f) g a W2 lg2 ((unhide HS).below (unhide BB2)) (unhide HX) (unhide HN) hroom k hk)
  have HV2 := hide hv2
  have LG2 := hide lg2
  have HW2 := hide hW2
  have HFT := hide (fun j (hj : lfoot l p q j) => (lg.lt j hj).2)
  have hmm := @run_makeMap Tryz.prog
  have HKC := hide hkc
  clear lg b1 b2 hW2 hv2 lg2 hk hkc OP
  go_upto_region 5 with fail
  rw [unhide HW2]
  go_wp2_with fail
  refine (unhide AL).mono ?_
  rintro e w3 ⟨ao, cap, rfl, ra, _, b3⟩
  have s3 := b3.size
  have PA := hide (parsed_any ao k cap (cellsOf f) (unhide HKC) (by omega) w3 ra (cells_mem (unhide HLN)))
  have HV3 := hide ((unhide HV2).below b3)
  have LG3 := hide ((unhide LG2).below b3)
  have BB3 := hide ((unhide BB2).trans (b3.mono (by omega)))
  clear ra b3 AL HV2 LG2 BB2
  go_wp2_with fail
  refine (unhide PA).mono ?_
  rintro e w4 ⟨ao4, cap4, rfl, ca, b4⟩
  have s4 := b4.size
  have SE := hide (set_any ao4 k cap4 (cellsOf f) (unhide HKC) (by omega) w4 ((unhide HV3).below b4) (by omega) (by omega) ca (cells_mem (unhide HLN)))
  have LG4 := hide ((unhide LG3).below b4)
  have BB4 := hide ((unhide BB3).trans (b4.mono (by omega)))
  clear ca b4 PA HV3 LG3 BB3
  go_wp2_with fail
  refine (unhide SE).mono ?_
  rintro e w5 ⟨rfl, hv5, k5⟩
  rw [setF_cells (unhide HW)] at hv5
  have hkb : ∀ j, lfoot l p q j → ¬ j = w1.heap.size := fun j hj e => by have := unhide HFT j hj; omega
  have LG5 := hide ((unhide LG4).kept k5 hkb)
  have BB5 := hide ((unhide BB4).trans k5.1)
  have HV5 := hide ((hv5.rebase hb).mono (by omega : 0 + k ≤ 8))
  have s5 := k5.size
  clear hv5 k5 SE LG4 BB4 hkb
  obtain ⟨W6, hW6⟩ : ∃ W6, w5.alloc (.cells #[.pointer (some ⟨l, 0, none⟩), .map (some w1.heap.size)] 68) = W6 := ⟨_, rfl⟩
  have b6 : Below w5.heap.size w5 W6 := by rw [← hW6]; exact (Below.refl _ w5).alloc (Nat.le_refl _) _
  have x6 : W6.heap[w5.heap.size]? = some (.cells #[.pointer (some ⟨l, 0, none⟩), .map (some w1.heap.size)] 68 (0, 0)) := by rw [← hW6]; exact heap_alloc_new _ _
  have FIN : Hid (Cs base W6 w5.heap.size l w1.heap.size f 8 ∧ Lg base W6 l p q (Ls room (rows f) syn ops) n ∧ Below w.heap.size w W6) := ⟨⟨by omega, x6, (unhide HV5).below b6⟩, (unhide LG5).below b6, (unhide BB5).trans (b6.mono (by omega))⟩
  have HW6 := hide hW6
  clear b6 x6 hW6 LG5 BB5 HV5
  go_wp2
  go_ret2
  rw [unhide HW6]
  exact ⟨_, l, _, rfl, by omega, hl, s1, unhide FIN⟩
end Go.Proofs.YtnagfoclbdlenaaGreatDoor

/- Cells where nothing goes wrong: Put, Crash, known. -/
import Derived.Test.YtnagfoclbdlenaaGreatDoorCPut
namespace Go.Proofs.YtnagfoclbdlenaaGreatDoor
open Go.RowKit Go.Maps

theorem takes_rows {f : Int → List Nat} (hl : ∀ x, (f x).length ≤ 12000) : takes (rows f) ≤ 96072 := by
  have h : ∀ r ∈ rows f, r.length ≤ 12001 := fun r hr => by
    obtain ⟨c, hc, rfl⟩ := List.mem_map.1 hr
    obtain ⟨n, hn, rfl⟩ := List.mem_map.1 hc
    have := hl n
    simp only [recOf, List.length_cons]; omega
  have h1 := takes_le h
  have h2 : (rows f).length ≤ 8 := by rw [rows, recs_len]; exact cells_len f
  have h3 : (rows f).length * (8 + 12001) ≤ 8 * (8 + 12001) := Nat.mul_le_mul_right _ h2
  omega
/-- Put of cells that may be put, with a tape whose power is there. -/
theorem nput {base cp l b c p : Nat} {q : Option Nat} {room syn ops n : Nat} {f : Int → List Nat} (g a : Addr) (ao : Option Addr) (m cap : Nat) (lst : List (Int × List Nat)) (hm : lst.length = m) (hm0 : 0 < m) (hm8 : m ≤ 1000) (w : World) (hC : Cs base w cp l b f c) (hc : c ≤ 100000) (hL : Lg base w l p q (Ls room (rows f) syn ops) n) (hS : Start w g a) (hb : base ≤ w.heap.size) (ho : ops ≤ 1000000)
    (hat : CAt w ao lst) (hwf : ∀ c ∈ lst, wf64 c.1) (hlen : ∀ x, (f x).length ≤ 12000) (h0 : refuseOf (fun _ => false) lst = 0) (hroom : 96072 ≤ room) (F : Int → List Nat) (hF : setF f lst = F) (n1 : Nat) (hn1 : takes (rows F) = n1) :
    Calls Tryz.prog 14 #[.pointer (some ⟨cp, 0, none⟩), .slice ao m cap] w fun e w' => e = .returned (.int .i64 0) ∧ PutOut base w w' cp l p q F (c + m) (Ls room (rows F) n1 (ops + 1)) n1 := by
  have hFl : ∀ x, (F x).length ≤ 12000 := by rw [← hF]; exact setF_len hlen (fun c hc => (refuse_zero h0 c hc).2)
  have hrep : (Ls room (rows f) syn ops).replace (cats (rows F)) = (0, Ls room (rows F) n1 (ops + 1)) := by
    rw [ls_replace (Nat.le_trans (takes_rows hFl) hroom), hn1]
  have h := put_ok g a ao m cap lst hm hm8 w hC hc hL hS hb (by simp only [Ls]; omega) (by simp [Ls]) hat hwf hlen h0 0 (Ls room (rows F) n1 (ops + 1)) (by rw [hF]; exact hrep) n1 (by rw [if_pos rfl, hF, hn1])
  rw [if_pos rfl, hF] at h
  exact Put_of cp ao m cap hm0 w 0 _ h
theorem crash_whole (room : Nat) (xs : List (List Nat)) (ops : Nat) (k : Int) : (Ls room xs (takes xs) ops).crash k = Ls room xs (takes xs) ops ∧ (Ls room xs (takes xs) ops).kept k = 0 := by
  have e : (Ls room xs (takes xs) ops).kept k = 0 := by
    simp only [St.kept, Ls, cats_len]
    rw [show ((takes xs : Nat) : Int) - (takes xs : Nat) + 1 = 1 by omega, Int.emod_one]; rfl
  refine ⟨?_, e⟩
  unfold St.crash
  rw [e]
  simp only [Ls, Nat.add_zero]
  rw [List.take_of_length_le (by rw [cats_len]; omega)]
theorem cat_one (w : World) (n : Int) (r : Option Addr) (cap m : Nat) (bs : List Nat) (hm : bs.length = m) (hb : Bytes w r bs) (hr : r = none → cap = 0) (hc : m ≤ cap) : CAt (w.alloc (.cells #[.int .i64 n, .slice r m cap] 40)) (some ⟨w.heap.size, 0, none⟩) [(n, bs)] := fun i n' bs' hi => by
  have hi0 : i = 0 := by have := (List.getElem?_eq_some_iff.1 hi).1; simp at this; omega
  subst hi0
  simp at hi
  obtain ⟨rfl, rfl⟩ := hi
  have hx := heap_alloc_new w (.cells #[.int .i64 n, .slice r m cap] 40)
  subst hm
  exact ⟨_, 0, r, cap, rfl, (cell_of_block hx).trans rfl, (cell_of_block hx).trans rfl, hb.below ((Below.refl _ w).alloc (Nat.le_refl _) _), hr, hc⟩
/-- nothing yet. -/
def noF : Int → List Nat := fun _ => []
theorem rows_none : rows noF = [] := by decide

set_option maxRecDepth 20000 in
set_option maxHeartbeats 2000000 in
theorem cknown_any (g a : Addr) (w : World) (hS : Start w g a) : Calls Tryz.prog 9 #[] w fun ev w' => ev = .returned (.bool true) ∧ Below w.heap.size w w' := by
  have hcv := fun (w : World) (C : Array Value) (n c : Nat) => Lib.run_convert_bytes_const (P := Tryz.prog) w 38 5 C n c Tryz.underlying38 Tryz.underlying5
  have HS := hide hS
  have hz := hS.low
  clear hS
  go_enter Tryz.func9, Tryz.ntmps9
  go_wp2_with fail
  refine (new_ok 400000 w (by decide) (by decide)).mono ?_
  rintro e w1 ⟨rfl, t1, b1⟩
  have s1 := b1.size
  have S1 := hide ((unhide HS).below b1)
  have HC := hide (copen w.heap.size w.heap.size none 400000 0 0 0 noF g a w1 (by rw [rows_none]; exact t1) (unhide S1) s1 (by rw [rows_none]; exact Fit.nil) (by rw [rows_none]; rfl) (by decide) (fun x h => absurd rfl h) (fun x => Nat.zero_le _))
  have B1 := hide b1
  clear t1 b1
  go_wp2_with fail
  refine (unhide HC).mono ?_
  rintro e w2 ⟨cp, l, b, rfl, hcp, hl, hbb, c2, l2, b2⟩
  have s2 := b2.size
  have s02 : w.heap.size ≤ w2.heap.size := Nat.le_trans s1 s2
  obtain ⟨V, hV⟩ : ∃ V, w2.alloc (.cells (u8s [120]).toArray 5 (1, 2)) = V := ⟨_, rfl⟩
  have bV : Below w2.heap.size w2 V := by rw [← hV]; exact (Below.refl _ w2).alloc (Nat.le_refl _) _
  have yV : Bytes V (some ⟨w2.heap.size, 0, none⟩) [120] := by rw [← hV]; exact bytes_new w2 [120] (by decide) 5 (1, 2)
  obtain ⟨U, hU⟩ : ∃ U, V.alloc (.cells #[.int .i64 1, .slice (some ⟨w2.heap.size, 0, none⟩) 1 1] 40) = U := ⟨_, rfl⟩
  have bU : Below V.heap.size V U := by rw [← hU]; exact (Below.refl _ V).alloc (Nat.le_refl _) _
  have aU : CAt U (some ⟨V.heap.size, 0, none⟩) [(1, [120])] := by rw [← hU]; exact cat_one V 1 _ 1 1 [120] rfl yV (fun h => by cases h) (Nat.le_refl _)
  have b2U : Below w2.heap.size w2 U := bV.trans (bU.mono bV.size)
  have vs : V.heap.size = w2.heap.size + 1 := by rw [← hV]; simp
  rw [vs] at aU
  have S2 := (unhide S1).below b2
  obtain ⟨F, hF⟩ : ∃ F, setF noF [(1, [120])] = F := ⟨_, rfl⟩
  have hF1 : F 1 = [120] := by rw [← hF]; rfl
  have hFl : ∀ x, (F x).length ≤ 12000 := by rw [← hF]; exact setF_len (fun x => Nat.zero_le _) (fun c hc => by simp at hc; subst hc; decide)
  have hFw : Within F := fun x hx => by
    rw [← hF] at hx
    by_cases e : x = 1
    · rw [e]; decide
    · exact absurd (by show (if x = 1 then [120] else []) = []; rw [if_neg e]) hx
  have HFT := hide (fit_rows (f := F) (fun x y hy => by
    rw [← hF] at hy
    by_cases e : x = 1
    · rw [e] at hy; have hy' : y ∈ [120] := hy; simp at hy'; omega
    · have hy' : y ∈ (if x = 1 then [120] else []) := hy
      rw [if_neg e] at hy'; simp at hy') hFl)
  obtain ⟨n1, hn1⟩ : ∃ n1, takes (rows F) = n1 := ⟨_, rfl⟩
  have HP := hide (nput g a (some ⟨w2.heap.size + 1, 0, none⟩) 1 1 [(1, [120])] rfl (by decide) (by decide) U (c2.below b2U) (by decide) (l2.below b2U) (S2.below b2U) (Nat.le_trans s02 b2U.size) (by decide) aU (fun c hc => by simp at hc; subst hc; exact wf_small64 (by decide)) (fun x => Nat.zero_le _) (by decide) (by decide) F hF n1 hn1)
  have HU := hide hU
  have HVV := hide hV
  have SU := hide (S2.below b2U)
  have BU := hide (((unhide B1).trans (b2.mono s1)).trans (b2U.mono s02))
  have HF1 := hide hF1
  have HFL := hide hFl
  have HFW := hide hFw
  have HNN := hide hn1
  clear HC hU hV bV yV bU aU b2U S2 c2 l2 b2 hF hF1 hFl hFw hn1
  go_wp2_with fail
  rw [show w2.alloc (.cells #[.int .u8 120] 5 (1, 2)) = V from unhide HVV, unhide HU]
  refine (unhide HP).mono ?_
  rintro e w3 ⟨rfl, q3, b3, c3, l3, k3, _⟩
  have S3 := hide ((unhide SU).keptd k3 hz)
  have B3 := hide ((unhide BU).trans k3.1)
  have s3 := (unhide B3).size
  have HC3 := hide (crash_any w.heap.size w.heap.size q3 _ 0 w3 l3.tape)
  clear c3 l3 k3 HP
  go_wp2_with fail
  refine (unhide HC3).mono ?_
  have ecr := crash_whole 400000 (rows F) 1 0
  rw [unhide HNN] at ecr
  rw [show (Ls 400000 (rows F) n1 (0 + 1)).crash 0 = Ls 400000 (rows F) n1 1 from ecr.1, show (Ls 400000 (rows F) n1 (0 + 1)).kept 0 = 0 from ecr.2]
  rintro e w4 ⟨rfl, t4, k4⟩
  have S4 := hide ((unhide S3).keptd k4 hz)
  have B4 := hide ((unhide B3).trans k4.1)
  have s4 := (unhide B4).size
  have hfit : Fit (rows F) := unhide HFT
  have HC4 := hide (copen w.heap.size w.heap.size q3 400000 n1 1 n1 F g a w4 t4 (unhide S4) s4 hfit (unhide HNN) (by decide) (unhide HFW) (fun x => Nat.le_trans (unhide HFL x) (by decide)))
  clear t4 k4 HC3 ecr hfit
  go_wp2_with fail
  refine (unhide HC4).mono ?_
  rintro e w5 ⟨cp5, l5, b5, rfl, _, _, _, c5, _, b5'⟩
  have GE := hide (get_any 1 (wf_small64 (by decide)) w5 c5 (Nat.le_trans (unhide HFL 1) (by decide)))
  have B5 := hide ((unhide B4).trans (b5'.mono s4))
  rw [unhide HF1] at GE
  clear c5 b5' HC4
  go_wp2_with fail
  refine (unhide GE).mono ?_
  rintro e w6 ⟨v, rfl, ov, _, b6⟩
  obtain ⟨va, vc, rfl, _, _, vb, _, _⟩ := ov.slice
  have cv := conv_str (n := 1) (cap := vc) vb rfl
  have es : str [120] = { data := #[120] } := by decide
  rw [es] at cv
  have B6 := hide ((unhide B5).trans (b6.mono (unhide B5).size))
  clear ov vb b6 GE es
  go_wp2
  go_ret
  exact ⟨rfl, unhide B6⟩
end Go.Proofs.YtnagfoclbdlenaaGreatDoor

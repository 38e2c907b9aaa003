/- HistBase: the walk. -/
import Derived.Test.YtmjiccpombkdlabHSameH
import Derived.Test.YtmjiccpombkdlabHXApp2
import Derived.Test.YtmjiccpombkdlabHKnown
import Derived.Test.YtmjiccpombkdlabHWithin
namespace Go.Proofs.Ytmjiccpombkdlab
open Go.RowKit Go.Maps

def baseRows (k : Nat) : List Rw := (List.range k).map fun j => (((j : Nat) : Int) + 1, enOf 1 1 (((j : Nat) : Int) + 1))
theorem baseRows_len (k : Nat) : (baseRows k).length = k := by simp [baseRows]
theorem baseRows_succ (k : Nat) : baseRows k ++ [((k : Int) + 1, enOf 1 1 ((k : Int) + 1))] = baseRows (k + 1) := by simp [baseRows, List.range_succ]
theorem baseRows_get {k j : Nat} (h : j < k) : (baseRows k)[j]? = some (((j : Nat) : Int) + 1, enOf 1 1 (((j : Nat) : Int) + 1)) := by simp [baseRows, h]
theorem baseRows_term (b : Int) (k : Nat) : termOf b (baseRows k) (b + (k : Int)) ≤ (k : Int) := by
  unfold termOf rowAt
  split
  · rename_i r h
    split at h
    · rename_i hb
      have hk : (b + (k : Int) - b - 1).toNat < k := by omega
      rw [baseRows_get hk] at h
      cases h
      show (((b + (k : Int) - b - 1).toNat : Nat) : Int) + 1 ≤ (k : Int)
      omega
    · cases h
  · omega
theorem baseRows_at (b : Int) (k : Nat) : termOf b (baseRows (k + 1)) (b + ((k : Int) + 1)) = (k : Int) + 1 := by
  unfold termOf rowAt
  rw [if_pos (by omega), show (b + ((k : Int) + 1) - b - 1).toNat = k by omega, baseRows_get (by omega)]
theorem baseApp (b : Int) (k : Nat) (h : b + (k : Int) + 1 ≤ 64) : appNo b (baseRows k) ((k : Int) + 1) 1 = 0 ∧ appN b (baseRows k) ((k : Int) + 1) 1 = b + ((k : Int) + 1) ∧ appRows b (baseRows k) ((k : Int) + 1) [enOf 1 1 ((k : Int) + 1)] = baseRows (k + 1) := by
  have h0 : appNo b (baseRows k) ((k : Int) + 1) 1 = 0 := by
    unfold appNo
    have := baseRows_term b k
    rw [baseRows_len, if_pos ⟨by omega, by omega⟩, if_pos (by omega)]
  refine ⟨h0, ?_, ?_⟩
  · unfold appN; rw [if_pos h0, baseRows_len]; omega
  · unfold appRows
    rw [if_pos (show appNo b (baseRows k) ((k : Int) + 1) [enOf 1 1 ((k : Int) + 1)].length = 0 from h0)]
    exact baseRows_succ k
theorem Xs.first (w : World) (b : Int) (base : Nat) (hb : base ≤ w.heap.size) : Xs base (fun k => k = w.heap.size) (w.alloc (.cells #[.int .i64 b, .slice none 0 0, .slice none 0 0] 49)) w.heap.size b [] :=
  ⟨⟨_, _, box_at _ _, Ir.nil _ _, XRow.nil _ _, fun k e => by simp [Value.ownBlock] at e, fun k e => by simp [Value.ownBlock] at e⟩, rfl, fun k e => by rw [e]; simp, fun k e => by rw [e]; exact hb⟩

set_option maxRecDepth 20000 in
set_option maxHeartbeats 8000000 in
theorem base_walk (x0 x1 x2 : Int) (w : World) :
    Calls Try.prog 5 #[.int .i64 x0, .int .i64 x1, .int .i64 x2] w fun e w' => e = .returned (.bool true) ∧ Below w.heap.size w w' := by
  have KN := hide (hknown_any w)
  have q0 := Int.emod_nonneg x0 (show (30 : Int) ≠ 0 by decide)
  have q1 := Int.emod_lt_of_pos x0 (show (0 : Int) < 30 by decide)
  have W0 := hide (fun Y => within_any x0 30 Y (by decide) (by decide))
  obtain ⟨b, hb⟩ : ∃ b : Nat, x0 % 30 = (b : Int) := ⟨(x0 % 30).toNat, by omega⟩
  rw [hb] at W0 q0 q1
  have hb30 : b < 30 := by omega
  have q2 := Int.emod_nonneg x1 (show (30 : Int) ≠ 0 by decide)
  have q3 := Int.emod_lt_of_pos x1 (show (0 : Int) < 30 by decide)
  have W1 := hide (fun Y => within_any x1 30 Y (by decide) (by decide))
  obtain ⟨n, hn⟩ : ∃ n : Nat, x1 % 30 = (n : Int) := ⟨(x1 % 30).toNat, by omega⟩
  rw [hn] at W1 q2 q3
  have hn30 : n < 30 := by omega
  have q4 := Int.emod_nonneg x2 (show (80 : Int) ≠ 0 by decide)
  have q5 := Int.emod_lt_of_pos x2 (show (0 : Int) < 80 by decide)
  have W2 := hide (fun Y => within_any x2 80 Y (by decide) (by decide))
  obtain ⟨f, hf⟩ : ∃ f : Int, x2 % 80 - 5 = f := ⟨_, rfl⟩
  have wrf : IntKind.i64.wrap (x2 % 80 - 5) = f := by rw [IntWalk.i64_in _ (by omega)]; exact hf
  have hf1 : -5 ≤ f ∧ f ≤ 75 := by omega
  clear hb hn q0 q1 q2 q3 q4 q5 hf
  go_enter Try.func5, Try.ntmps5
  go_wp2_with fail
  refine (unhide KN).mono ?_
  rintro e w1 ⟨rfl, b1⟩
  have B1 := hide b1
  have V0 := hide (unhide W0 w1)
  have V1 := hide (unhide W1 w1)
  have NE := hide (hnew_any (b : Int) w1)
  clear b1 KN W0 W1
  go_wp2_with fail
  refine (unhide V0).mono ?_
  rintro e z ⟨rfl, hw⟩
  replace hw := hw.symm
  subst hw
  clear V0
  go_wp2_with fail
  refine (unhide V1).mono ?_
  rintro e z ⟨rfl, hw⟩
  replace hw := hw.symm
  subst hw
  clear V1
  go_wp2_with fail
  refine (unhide NE).mono ?_
  rintro e w3 ⟨rfl, h3, b3⟩
  have b13 := below_far (unhide B1) b3
  obtain ⟨W, hW⟩ : ∃ W, w3.alloc (.cells #[.int .i64 (b : Int), .slice none 0 0, .slice none 0 0] 49) = W := ⟨_, rfl⟩
  have bW : Below w3.heap.size w3 W := by rw [← hW]; exact (Below.refl _ w3).alloc (Nat.le_refl _) _
  have x3 : Xs w.heap.size (fun k => k = w3.heap.size) W w3.heap.size (b : Int) [] := by rw [← hW]; exact Xs.first w3 (b : Int) w.heap.size b13.size
  have H3 := hide (h3.below bW)
  have X3 := hide x3
  have BW := hide (below_far b13 bW)
  have HW := hide hW
  have P13 : Hid (w1.heap.size < w3.heap.size ∧ w.heap.size ≤ w1.heap.size) := ⟨h3.lt _ rfl, (unhide B1).size⟩
  obtain ⟨p, hp⟩ : ∃ p, w1.heap.size = p := ⟨_, rfl⟩
  obtain ⟨px, hpx⟩ : ∃ px, w3.heap.size = px := ⟨_, rfl⟩
  rw [hp] at H3 P13
  rw [hpx] at X3 P13
  clear h3 b3 b13 bW x3 hW NE B1
  go_upto_region 6 with fail
  rw [unhide HW]
  clear HW hp hpx
  go_wp2_with fail
  go_loopw [9, 10, 11, 12] (fun iv _ _ _ wr => ∃ (k : Nat) (D E : Nat → Prop), k ≤ n ∧ iv = .int .i64 ((k : Int) + 1) ∧ Hs D wr p (b : Int) (baseRows k) ∧ Xs w.heap.size E wr px (b : Int) (baseRows k) ∧ (∀ j, D j → ¬ E j) ∧ (∀ j, D j → w.heap.size ≤ j) ∧ Below w.heap.size w wr) (fun iv _ _ _ _ => n + 1 - (intOf iv).toNat)
  case atStart => exact ⟨0, _, _, Nat.zero_le _, rfl, unhide H3, unhide X3, fun j h1 h2 => by have := (unhide P13).1; omega, fun j h1 => by rw [h1]; exact (unhide P13).2, unhide BW⟩
  case round =>
    obtain ⟨k, D, E, hk, rfl, hs, hx, hde, hd, hb⟩ := hrel
    have HS := hide hs
    have XS := hide hx
    have DE := hide hde
    have HD := hide hd
    have B := hide hb
    clear hs hx hde hd hb H3 X3 BW
    have fit : Fit (b : Int) (baseRows k) := ⟨by omega, by omega, by rw [baseRows_len]; omega⟩
    by_cases hlt : k < n
    · have g1 : decide ((k : Int) + 1 ≤ (n : Int)) = true := decide_eq_true (by omega)
      obtain ⟨hno, hN, hR⟩ := baseApp (b : Int) k (by omega)
      -- the entry's box, then the row of one
      obtain ⟨V, hV⟩ : ∃ V, wr.alloc (.cells #[.int .i64 1, .int .i64 1, .int .i64 ((k : Int) + 1), .string ⟨#[]⟩, .slice none 0 0, .int .i64 0] 32) = V := ⟨_, rfl⟩
      have bV : Below wr.heap.size wr V := by rw [← hV]; exact (Below.refl _ wr).alloc (Nat.le_refl _) _
      have xV : V.heap[wr.heap.size]? = some (.cells #[.int .i64 1, .int .i64 1, .int .i64 ((k : Int) + 1), .string ⟨#[]⟩, .slice none 0 0, .int .i64 0] 32 (0, 0)) := by rw [← hV]; exact box_at _ _
      have sV : wr.heap.size < V.heap.size := heap_lt xV
      obtain ⟨V2, hV2⟩ : ∃ V2, V.alloc (.cells #[.int .i64 1, .int .i64 1, .int .i64 ((k : Int) + 1), .string ⟨#[]⟩, .slice none 0 0, .int .i64 0] 32) = V2 := ⟨_, rfl⟩
      have bV2 : Below V.heap.size V V2 := by rw [← hV2]; exact (Below.refl _ V).alloc (Nat.le_refl _) _
      have sV2 : V.heap.size < V2.heap.size := by rw [← hV2]; simp
      have hE : EsR (fun j => j = V.heap.size) V2 (some ⟨V.heap.size, 0, none⟩) [enOf 1 1 ((k : Int) + 1)] := by
        rw [← hV2]; exact es_lit V _ (fun e he => by simp at he; rw [he]; rfl) _ rfl
      have bb := below_far bV bV2
      have AP := hide (append_any ((unhide HS).below bb) fit ((k : Int) + 1) (some ⟨V.heap.size, 0, none⟩) 1 1 [enOf 1 1 ((k : Int) + 1)] rfl (by decide) hE (fun j hj x => by have := (unhide HS).lt j x; omega) (fun j hj => by rw [hj]; exact sV2))
      rw [hno, hN, hR] at AP
      have a0 : V.cell? ⟨wr.heap.size, 0, none⟩ = some (.int .i64 1) := (cell_of_block xV).trans rfl
      have a1 : V.cell? ⟨wr.heap.size, 1, none⟩ = some (.int .i64 1) := (cell_of_block xV).trans rfl
      have a2 : V.cell? ⟨wr.heap.size, 2, none⟩ = some (.int .i64 ((k : Int) + 1)) := (cell_of_block xV).trans rfl
      have a3 : V.cell? ⟨wr.heap.size, 3, none⟩ = some (.string ⟨#[]⟩) := (cell_of_block xV).trans rfl
      have a4 : V.cell? ⟨wr.heap.size, 4, none⟩ = some (.slice none 0 0) := (cell_of_block xV).trans rfl
      have a5 : V.cell? ⟨wr.heap.size, 5, none⟩ = some (.int .i64 0) := (cell_of_block xV).trans rfl
      have BB := hide bb
      have XV := hide (Below.stay bV2 xV)
      have HV := hide hV
      have HV2 := hide hV2
      have FIT := hide fit
      have wrb : IntKind.i64.wrap ((b : Int) + ((k : Int) + 1)) = (b : Int) + ((k : Int) + 1) := IntWalk.i64_in _ (by omega)
      have wrk : IntKind.i64.wrap ((k : Int) + 1 + 1) = (k : Int) + 1 + 1 := IntWalk.i64_in _ (by omega)
      clear hV hV2 bV bV2 xV sV sV2 hE bb fit
      go_upto_region 10 with fail
      rw [unhide HV]
      go_wp2_with fail
      rw [unhide HV2]
      refine (unhide AP).mono ?_
      rintro e y1 ⟨rfl, h1, k1⟩
      -- the same to the document's log
      have lowB := (unhide B).size
      have hxs := (((unhide XS).below (unhide BB)).kp k1 (fun j hj x => unhide DE j x hj) (unhide HD))
      have xv1 := k1.block (unhide XV) (fun x => by have := (unhide HS).lt _ x; omega)
      have by1 : Below w.heap.size w y1 := (below_far (unhide B) (unhide BB)).trans (k1.below (unhide HD) (Nat.le_trans lowB (unhide BB).size))
      obtain ⟨V3, hV3⟩ : ∃ V3, y1.alloc (.cells #[.int .i64 1, .int .i64 1, .int .i64 ((k : Int) + 1), .string ⟨#[]⟩, .slice none 0 0, .int .i64 0] 32) = V3 := ⟨_, rfl⟩
      have bV3 : Below y1.heap.size y1 V3 := by rw [← hV3]; exact (Below.refl _ y1).alloc (Nat.le_refl _) _
      have sV3 : y1.heap.size < V3.heap.size := by rw [← hV3]; simp
      have hE3 : XEs (fun j => j = y1.heap.size) w.heap.size V3 (some ⟨y1.heap.size, 0, none⟩) [enOf 1 1 ((k : Int) + 1)] := by
        rw [← hV3]; exact xes_lit w.heap.size y1 _ (fun e he => by simp at he; rw [he]; rfl) _ rfl (flat6 _)
      have XA := hide (xappend_any (hxs.below bV3) (unhide FIT) ((k : Int) + 1) (some ⟨y1.heap.size, 0, none⟩) 1 1 [enOf 1 1 ((k : Int) + 1)] rfl (by decide) hE3 (fun j hj x => by have := hxs.lt j x; omega) (fun j hj => by rw [hj]; exact sV3) (below_far by1 bV3).size)
      rw [hno, hN, hR] at XA
      have c0 : y1.cell? ⟨wr.heap.size, 0, none⟩ = some (.int .i64 1) := (cell_of_block xv1).trans rfl
      have c1 : y1.cell? ⟨wr.heap.size, 1, none⟩ = some (.int .i64 1) := (cell_of_block xv1).trans rfl
      have c2 : y1.cell? ⟨wr.heap.size, 2, none⟩ = some (.int .i64 ((k : Int) + 1)) := (cell_of_block xv1).trans rfl
      have c3 : y1.cell? ⟨wr.heap.size, 3, none⟩ = some (.string ⟨#[]⟩) := (cell_of_block xv1).trans rfl
      have c4 : y1.cell? ⟨wr.heap.size, 4, none⟩ = some (.slice none 0 0) := (cell_of_block xv1).trans rfl
      have c5 : y1.cell? ⟨wr.heap.size, 5, none⟩ = some (.int .i64 0) := (cell_of_block xv1).trans rfl
      have H1 := hide h1
      have BY := hide (below_far by1 bV3)
      have BV3 := hide bV3
      have HV3 := hide hV3
      have XL := hide hxs.low
      have XLT := hide hxs.lt
      have SB := hide (Nat.le_trans lowB (unhide BB).size)
      have HLT := hide h1.lt
      have EN : Hid (∀ j, News D V2 y1 j → ¬ E j) := fun j hj x => hj.elim (fun y => unhide DE j y x) (fun y => by have := (unhide XS).lt j x; have := (unhide BB).size; omega)
      clear h1 k1 hxs xv1 by1 hV3 bV3 sV3 hE3 AP a0 a1 a2 a3 a4 a5 lowB hno hN hR
      go_wp2_with fail
      rw [unhide HV3]
      refine (unhide XA).mono ?_
      rintro e y2 ⟨rfl, h2, k2⟩
      have hs2 := ((unhide H1).below (unhide BV3)).kp k2 (unhide EN)
      have by2 : Below w.heap.size w y2 := (unhide BY).trans (k2.below (unhide XL) (unhide BY).size)
      have T2 := hide (term_any hs2 ⟨by omega, by omega, by rw [baseRows_len]; omega⟩ ((b : Int) + ((k : Int) + 1)))
      rw [baseRows_at] at T2
      have HS2 := hide hs2
      have X2 := hide h2
      have B2 := hide by2
      have DE2 : Hid (∀ j, News D V2 y1 j → ¬ News E V3 y2 j) := fun j hj x => x.elim (unhide EN j hj) (fun y => by have := unhide HLT j hj; have := (unhide BV3).size; omega)
      clear hs2 h2 k2 by2 XA c0 c1 c2 c3 c4 c5
      go_wp2_with fail
      refine (unhide T2).mono ?_
      rintro e y3 ⟨rfl, b3⟩
      have B3 := hide (below_far (unhide B2) b3)
      have HS3 := hide ((unhide HS2).below b3)
      have X3' := hide ((unhide X2).below b3)
      clear b3 T2
      go_wp2
      go_roundw
      case rel => exact ⟨k + 1, _, _, by omega, by go_num, unhide HS3, unhide X3', unhide DE2, fun j hj => hj.elim (unhide HD j) (fun y => Nat.le_trans (unhide SB) y.1), unhide B3⟩
      case measure => simp [intOf]; omega
    · obtain rfl : k = n := by omega
      have g1 : decide ((k : Int) + 1 ≤ (k : Int)) = false := decide_eq_false (by omega)
      have V2 := hide (unhide W2 wr)
      obtain ⟨a, ha⟩ : ∃ a, aheadOf (b : Int) (baseRows k) f = a := ⟨_, rfl⟩
      have hal : a = if f ≤ (b : Int) then 0 else min (f - (b : Int) - 1).toNat k := by rw [← ha]; unfold aheadOf; rw [baseRows_len]
      have FR := hide (from_any (unhide HS) fit f)
      rw [ha] at FR
      have EN := hide (fun Y (h : Below wr.heap.size wr Y) => entry_any ((unhide HS).below h) fit (b : Int))
      have TB := hide (fun Y (h : Below wr.heap.size wr Y) => term_any ((unhide HS).below h) fit (b : Int))
      have hrn : rowAt (b : Int) (baseRows k) (b : Int) = none := rowAt_none (by omega)
      rw [show entOf (b : Int) (baseRows k) (b : Int) = zeroEn by unfold entOf; rw [hrn], hrn] at EN
      rw [show termOf (b : Int) (baseRows k) (b : Int) = 0 by unfold termOf; rw [hrn]] at TB
      have SA := hide (fun Y (h : Below wr.heap.size wr Y) => same_any ((unhide HS).below h) ((unhide XS).below h) fit (Nat.le_trans (unhide B).size h.size))
      simp only [zeroEn, Option.isSome_none] at EN
      obtain ⟨m, hm⟩ : ∃ m, k - a = m := ⟨_, rfl⟩
      have hml : ((baseRows k).drop a).length = m := by rw [List.length_drop, baseRows_len]; exact hm
      have HML := hide hml
      have HM := hide hm
      have A0 := hide (Below.refl wr.heap.size wr)
      have wr1 : IntKind.i64.wrap ((b : Int) + (k : Int)) = (b : Int) + (k : Int) := IntWalk.i64_in _ (by omega)
      have wr2 : IntKind.i64.wrap ((b : Int) + 1) = (b : Int) + 1 := IntWalk.i64_in _ (by omega)
      clear ha hrn hml hlt fit W2
      go_wp2_with fail
      refine (unhide V2).mono ?_
      rintro e z ⟨rfl, hw⟩
      replace hw := hw.symm
      subst hw
      clear V2
      go_wp2_with fail
      refine (unhide FR).mono ?_
      rintro e y1 ⟨tv, ev, N, rfl, i1, e1, b1⟩
      obtain ⟨at1, ct1, rfl, -⟩ := i1.slice
      obtain ⟨ae1, ce1, rfl, -⟩ := e1.slice
      rw [List.length_map, List.length_map, unhide HML]
      have E1 := hide (fun Y (h : Below y1.heap.size y1 Y) => (e1.below h).esR)
      have A1 := hide b1
      have N1 := hide (unhide EN _ b1)
      clear i1 e1 b1 FR EN
      go_wp2_with fail
      refine (unhide N1).mono ?_
      rintro e y2 ⟨mv, rfl, o2, b2⟩
      obtain ⟨mo2, mc2, rfl, -⟩ := o2.slice
      obtain ⟨V, hV⟩ : ∃ V, y2.alloc (.cells #[.int .i64 0, .int .i64 0, .int .i64 0, .string ⟨#[]⟩, .slice mo2 0 mc2, .int .i64 0] 32) = V := ⟨_, rfl⟩
      have bV : Below y2.heap.size y2 V := by rw [← hV]; exact (Below.refl _ y2).alloc (Nat.le_refl _) _
      have b2V := below_far b2 bV
      have A2 := hide (below_far (unhide A1) b2V)
      have E2 := hide (fun Y (h : Below V.heap.size V Y) => unhide E1 Y (below_far b2V h))
      have HV := hide hV
      clear o2 b2 bV hV b2V N1 E1
      go_upto_region 17 with fail
      rw [unhide HV]
      go_cut [17] (fun v17 wc => v17 = .int .i64 (m : Int) ∧ wc = V)
      case first =>
        go_wp2_with fail
        all_goals go_meet
        all_goals exact ⟨by congr 1; have := unhide HM; split at hal <;> omega, rfl⟩
      case rest =>
        obtain ⟨rfl, rfl⟩ := hcut
        have S2 := hide (unhide SA _ (unhide A2))
        clear SA
        go_wp2_with fail
        refine (unhide S2).mono ?_
        rintro e y3 ⟨rfl, b3⟩
        have A3 := hide (below_far (unhide A2) b3)
        have T3 := hide (unhide TB _ (unhide A3))
        have C3 := hide b3
        clear b3 S2 TB
        by_cases hm0 : m = 0
        · subst hm0
          go_wp2_with fail
          refine (unhide T3).mono ?_
          rintro e y4 ⟨rfl, b4⟩
          have A4 := hide (below_far (unhide A3) b4)
          clear b4 T3
          go_wp2
          go_ret
          exact ⟨rfl, below_far (unhide B) (unhide A4)⟩
        · obtain ⟨m', rfl⟩ : ∃ m', m = m' + 1 := ⟨m - 1, by omega⟩
          go_wp2_with fail
          refine (unhide T3).mono ?_
          rintro e y4 ⟨rfl, b4⟩
          have A4 := hide (below_far (unhide A3) b4)
          have e4 := unhide E2 _ (below_far (unhide C3) b4)
          have hget : (((baseRows k).drop a).map (·.2))[m']? = some (enOf 1 1 (k : Int)) := by
            have := unhide HM
            rw [List.getElem?_map, List.getElem?_drop, baseRows_get (by omega)]
            show some (enOf 1 1 (((a + m' : Nat) : Int) + 1)) = _
            rw [show ((a + m' : Nat) : Int) + 1 = (k : Int) by omega]
          obtain ⟨g, off, mo, mc, rfl, -, -, k2, -⟩ := e4.at hget
          have k2' : y4.cell? ⟨g, off + m' * 6 + 2, none⟩ = some (.int .i64 (k : Int)) := k2
          have hne0 : (((m' + 1 : Nat) : Int) == 0) = false := by rw [beq_eq_false_iff_ne]; omega
          clear b4 T3 e4 hget k2
          go_wp2
          go_ret
          exact ⟨rfl, below_far (unhide B) (unhide A4)⟩
end Go.Proofs.Ytmjiccpombkdlab

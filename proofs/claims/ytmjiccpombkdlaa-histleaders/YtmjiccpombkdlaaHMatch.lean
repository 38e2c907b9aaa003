/- synodallaw10.match: a contract, where two logs match. -/
import Derived.Test.YtmjiccpombkdlaaHEntry
import Derived.Test.YtmjiccpombkdlaaHSame
namespace Go.Proofs.Ytmjiccpombkdlaa
open Go.RowKit Go.Maps

/-- where two logs have entries of one term at an index, they are the same up to there. -/
def Matches (X Y : List Rw) : Prop := ∀ (k : Nat) (r q : Rw), X[k]? = some r → Y[k]? = some q → r.1 = q.1 → X.take (k + 1) = Y.take (k + 1)
theorem rowAt_same {X Y : List Rw} {m : Nat} (h : X.take m = Y.take m) {k : Int} (hk : k ≤ (m : Int)) : rowAt 0 X k = rowAt 0 Y k := by
  unfold rowAt
  split
  · have e : (k - 0 - 1).toNat < m := by omega
    rw [← List.getElem?_take_of_lt e, h, List.getElem?_take_of_lt e]
  · rfl
theorem Matches.at {X Y : List Rw} (h : Matches X Y) {m : Nat} (h1 : 1 ≤ m) (hx : m ≤ X.length) (hy : m ≤ Y.length) (he : termOf 0 X (m : Int) = termOf 0 Y (m : Int)) : X.take m = Y.take m := by
  obtain ⟨r, hr⟩ : ∃ r, X[m - 1]? = some r := ⟨_, List.getElem?_eq_getElem (by omega)⟩
  obtain ⟨q, hq⟩ : ∃ q, Y[m - 1]? = some q := ⟨_, List.getElem?_eq_getElem (by omega)⟩
  have e1 : termOf 0 X (m : Int) = r.1 := by
    unfold termOf rowAt
    rw [if_pos (by omega), show ((m : Int) - 0 - 1).toNat = m - 1 by omega, hr]
  have e2 : termOf 0 Y (m : Int) = q.1 := by
    unfold termOf rowAt
    rw [if_pos (by omega), show ((m : Int) - 0 - 1).toNat = m - 1 by omega, hq]
  have := h (m - 1) r q hr hq (by rw [← e1, ← e2]; exact he)
  rwa [show m - 1 + 1 = m by omega] at this
theorem entOf_ms {X : List Rw} (hX : ∀ r ∈ X, r.2.ms.length ≤ 1000000) (k : Int) : (entOf 0 X k).ms.length ≤ 1000000 := by
  unfold entOf rowAt
  split
  · rename_i r h
    split at h
    · exact hX r (List.mem_of_getElem? h)
    · cases h
  · decide
theorem Hs.ms {D : Nat → Prop} {w : World} {p : Nat} {b : Int} {rs : List Rw} (h : Hs D w p b rs) : ∀ r ∈ rs, r.2.ms.length ≤ 1000000 := fun r hr => by
  obtain ⟨⟨rv, _, xs, _, _, h3⟩, _, _⟩ := h
  obtain ⟨i, hi, rfl⟩ := List.getElem_of_mem hr
  obtain ⟨mv, _, _, _, h4⟩ := h3 i _ (List.getElem?_eq_getElem hi)
  exact h4

set_option maxRecDepth 20000 in
set_option maxHeartbeats 4000000 in
theorem match_any {D E : Nat → Prop} {w : World} {p q : Nat} {X Y : List Rw} (hX : Hs D w p 0 X) (hY : Hs E w q 0 Y) (hm : Matches X Y) (lx : X.length ≤ 1000) (ly : Y.length ≤ 1000) :
    Calls Try.prog 33 #[.pointer (some ⟨p, 0, none⟩), .pointer (some ⟨q, 0, none⟩)] w fun e w' => e = .returned (.bool true) ∧ Below w.heap.size w w' := by
  have fx : Fit 0 X := ⟨by decide, by decide, by omega⟩
  have fy : Fit 0 Y := ⟨by decide, by decide, by omega⟩
  have LX := hide (last_any hX fx)
  have LY := hide (fun Z (h : Below w.heap.size w Z) => last_any (hY.below h) fy)
  have TX := hide (fun (i : Int) Z (h : Below w.heap.size w Z) => term_any (hX.below h) fx i)
  have TY := hide (fun (i : Int) Z (h : Below w.heap.size w Z) => term_any (hY.below h) fy i)
  have EX := hide (fun (i : Int) Z (h : Below w.heap.size w Z) => entry_any (hX.below h) fx i)
  have EY := hide (fun (i : Int) Z (h : Below w.heap.size w Z) => entry_any (hY.below h) fy i)
  have MS := hide hX.ms
  have HM := hide hm
  obtain ⟨a, ha⟩ : ∃ a, X.length = a := ⟨_, rfl⟩
  obtain ⟨b, hb⟩ : ∃ b, Y.length = b := ⟨_, rfl⟩
  rw [ha] at LX lx
  rw [hb] at LY ly
  rw [show (0 : Int) + (a : Int) = (a : Int) by omega] at LX
  rw [show (0 : Int) + (b : Int) = (b : Int) by omega] at LY
  obtain ⟨c, hc⟩ : ∃ c, min a b = c := ⟨_, rfl⟩
  have HAB := hide (And.intro ha hb)
  have hca : c ≤ a ∧ c ≤ b ∧ c ≤ 1000 := by omega
  have hmin : (if (a : Int) ≤ (b : Int) then (a : Int) else (b : Int)) = (c : Int) := by split <;> omega
  clear ha hb hX hY hm fx fy
  go_enter Try.func33, Try.ntmps33
  go_upto_region 1 with fail
  go_cut [5] (fun v5 wc => v5 = .int .i64 (c : Int) ∧ Below w.heap.size w wc)
  case first =>
    go_wp2_with fail
    refine (unhide LX).mono ?_
    rintro e w1 ⟨rfl, b1⟩
    have Y1 := hide (unhide LY _ b1)
    have B1 := hide b1
    clear b1 LX LY
    go_wp2_with fail
    refine (unhide Y1).mono ?_
    rintro e w2 ⟨rfl, b2⟩
    have B2 := hide (below_far (unhide B1) b2)
    clear b2 Y1
    go_wp2_with fail
    all_goals go_meet
    all_goals exact ⟨by congr 1; omega, unhide B2⟩
  case rest =>
    obtain ⟨rfl, hb⟩ := hcut
    have B0 := hide hb
    clear hb LX LY hmin hc
    go_wp2_with fail
    go_loopw [5, 6, 7, 8, 9, 10] (fun iv _ _ _ _ _ wr => ∃ m : Nat, m ≤ c ∧ iv = .int .i64 (m : Int) ∧ Below w.heap.size w wr) (fun iv _ _ _ _ _ _ => (intOf iv).toNat)
    case atStart => exact ⟨c, Nat.le_refl _, rfl, unhide B0⟩
    case round =>
      obtain ⟨m, hmc, rfl, hb⟩ := hrel
      obtain ⟨wo, hwo⟩ : ∃ wo, wo = wr := ⟨_, rfl⟩
      subst hwo
      have B := hide hb
      clear hb B0
      by_cases hm0 : 0 < m
      · have hq : (0 : Int) < (m : Int) := by omega
        have T1 := hide (unhide TX (m : Int) _ (unhide B))
        have TY1 := hide (unhide TY (m : Int))
        have wrm : IntKind.i64.wrap ((m : Int) - 1) = (m : Int) - 1 := IntWalk.i64_in _ (by omega)
        obtain ⟨t, ht⟩ : ∃ t, termOf 0 X (m : Int) = t := ⟨_, rfl⟩
        obtain ⟨s, hs⟩ : ∃ s, termOf 0 Y (m : Int) = s := ⟨_, rfl⟩
        rw [ht] at T1
        rw [hs] at TY1
        have HTS := hide (And.intro ht hs)
        clear ht hs
        go_wp2_with fail
        refine (unhide T1).mono ?_
        rintro e z1 ⟨rfl, c1⟩
        have A1 := hide (below_far (unhide B) c1)
        have T2 := hide (unhide TY1 _ (unhide A1))
        clear c1 T1
        go_wp2_with fail
        refine (unhide T2).mono ?_
        rintro e z2 ⟨rfl, c2⟩
        have A2 := hide (below_far (unhide A1) c2)
        clear c2 T2
        by_cases hts : t = s
        · have htk := (unhide HM).at (m := m) (by omega) (by rw [(unhide HAB).1]; omega) (by rw [(unhide HAB).2]; omega) (by rw [(unhide HTS).1, (unhide HTS).2]; exact hts)
          have TK := hide htk
          subst hts
          clear htk
          go_wp2_with fail
          go_loopw [6, 7, 8, 9, 10] (fun jv _ _ _ _ wr => ∃ k : Nat, 1 ≤ k ∧ k ≤ m + 1 ∧ jv = .int .i64 (k : Int) ∧ Below w.heap.size w wr) (fun jv _ _ _ _ _ => m + 1 - (intOf jv).toNat)
          case atStart => exact ⟨1, Nat.le_refl _, by omega, rfl, unhide A2⟩
          case round =>
            obtain ⟨k, hk1, hk2, rfl, hb⟩ := hrel
            have BK := hide hb
            clear hb
            by_cases hkm : k ≤ m
            · have hrow := rowAt_same (unhide TK) (k := (k : Int)) (by omega)
              have hent : entOf 0 Y (k : Int) = entOf 0 X (k : Int) := by unfold entOf; rw [hrow]
              have hter : termOf 0 Y (k : Int) = termOf 0 X (k : Int) := by unfold termOf; rw [hrow]
              have hqk : (k : Int) ≤ (m : Int) := by omega
              have X1 := hide (unhide EX (k : Int) _ (unhide BK))
              have Y1 := hide (unhide EY (k : Int))
              rw [hent] at Y1
              have S1 := hide (unhide TX (k : Int))
              have S2 := hide (unhide TY (k : Int))
              rw [hter] at S2
              have hml := entOf_ms (unhide MS) (k : Int)
              obtain ⟨e, he⟩ : ∃ e, entOf 0 X (k : Int) = e := ⟨_, rfl⟩
              obtain ⟨u, hu⟩ : ∃ u, termOf 0 X (k : Int) = u := ⟨_, rfl⟩
              rw [he] at X1 Y1 hml
              rw [hu] at S1 S2
              obtain ⟨kind, client, seq, text, ms, dest⟩ := e
              simp only at X1 Y1 hml
              clear hrow hent hter he hu
              go_wp2_with fail
              refine (unhide X1).mono ?_
              rintro x y1 ⟨mv1, rfl, o1, c1⟩
              obtain ⟨mo1, mc1, rfl, -⟩ := o1.slice
              obtain ⟨V1, hV1⟩ : ∃ V, y1.alloc (.cells #[.int .i64 kind, .int .i64 client, .int .i64 seq, .string text, .slice mo1 ms.length mc1, .int .i64 dest] 60) = V := ⟨_, rfl⟩
              have bV1 : Below y1.heap.size y1 V1 := by rw [← hV1]; exact (Below.refl _ y1).alloc (Nat.le_refl _) _
              have xV1 : V1.heap[y1.heap.size]? = some (.cells #[.int .i64 kind, .int .i64 client, .int .i64 seq, .string text, .slice mo1 ms.length mc1, .int .i64 dest] 60 (0, 0)) := by rw [← hV1]; exact box_at _ _
              have P1 := hide (below_far (below_far (unhide BK) c1) bV1)
              have I1 := hide (Ir.below o1 bV1)
              have HV1 := hide hV1
              have XV1 := hide xV1
              have Y2 := hide (unhide Y1 _ (unhide P1))
              clear o1 c1 bV1 xV1 hV1 X1 Y1
              go_upto_region 9 with fail
              rw [unhide HV1]
              go_wp2_with fail
              refine (unhide Y2).mono ?_
              rintro x y2 ⟨mv2, rfl, o2, c2⟩
              obtain ⟨mo2, mc2, rfl, -⟩ := o2.slice
              obtain ⟨V2, hV2⟩ : ∃ V, y2.alloc (.cells #[.int .i64 kind, .int .i64 client, .int .i64 seq, .string text, .slice mo2 ms.length mc2, .int .i64 dest] 60) = V := ⟨_, rfl⟩
              have bV2 : Below y2.heap.size y2 V2 := by rw [← hV2]; exact (Below.refl _ y2).alloc (Nat.le_refl _) _
              have xV2 : V2.heap[y2.heap.size]? = some (.cells #[.int .i64 kind, .int .i64 client, .int .i64 seq, .string text, .slice mo2 ms.length mc2, .int .i64 dest] 60 (0, 0)) := by rw [← hV2]; exact box_at _ _
              have c2V := below_far c2 bV2
              have P2 := hide (below_far (unhide P1) c2V)
              have I1' := hide (Ir.below (unhide I1) c2V)
              have I2 := hide (Ir.below o2 bV2)
              have XV1' := hide (Below.stay c2V (unhide XV1))
              have XV2 := hide xV2
              have HV2 := hide hV2
              have S1a := hide (unhide S1 _ (unhide P2))
              clear o2 c2 bV2 xV2 hV2 c2V Y2 S1 I1 XV1
              go_upto_region 10 with fail
              rw [unhide HV2]
              go_wp2_with fail
              refine (unhide S1a).mono ?_
              rintro x y3 ⟨rfl, c3⟩
              have P3 := hide (below_far (unhide P2) c3)
              have S2a := hide (unhide S2 _ (unhide P3))
              have C3 := hide c3
              clear c3 S1a S2
              go_wp2_with fail
              refine (unhide S2a).mono ?_
              rintro x y4 ⟨rfl, c4⟩
              have c34 := below_far (unhide C3) c4
              have P4 := hide (below_far (unhide P3) c4)
              have n1 := Below.stay c34 (unhide XV1')
              have n2 := Below.stay c34 (unhide XV2)
              have a0 : y4.cell? ⟨y1.heap.size, 0, none⟩ = some (.int .i64 kind) := (cell_of_block n1).trans rfl
              have a1 : y4.cell? ⟨y1.heap.size, 1, none⟩ = some (.int .i64 client) := (cell_of_block n1).trans rfl
              have a2 : y4.cell? ⟨y1.heap.size, 2, none⟩ = some (.int .i64 seq) := (cell_of_block n1).trans rfl
              have a3 : y4.cell? ⟨y1.heap.size, 3, none⟩ = some (.string text) := (cell_of_block n1).trans rfl
              have a4 : y4.cell? ⟨y1.heap.size, 4, none⟩ = some (.slice mo1 ms.length mc1) := (cell_of_block n1).trans rfl
              have a5 : y4.cell? ⟨y1.heap.size, 5, none⟩ = some (.int .i64 dest) := (cell_of_block n1).trans rfl
              have d0 : y4.cell? ⟨y2.heap.size, 0, none⟩ = some (.int .i64 kind) := (cell_of_block n2).trans rfl
              have d1 : y4.cell? ⟨y2.heap.size, 1, none⟩ = some (.int .i64 client) := (cell_of_block n2).trans rfl
              have d2 : y4.cell? ⟨y2.heap.size, 2, none⟩ = some (.int .i64 seq) := (cell_of_block n2).trans rfl
              have d3 : y4.cell? ⟨y2.heap.size, 3, none⟩ = some (.string text) := (cell_of_block n2).trans rfl
              have d4 : y4.cell? ⟨y2.heap.size, 4, none⟩ = some (.slice mo2 ms.length mc2) := (cell_of_block n2).trans rfl
              have d5 : y4.cell? ⟨y2.heap.size, 5, none⟩ = some (.int .i64 dest) := (cell_of_block n2).trans rfl
              have SE := hide (rsame_one ⟨kind, client, seq, text, ms, dest⟩ mo1 mo2 mc1 mc2 y4 hml (Ir.inF (Ir.below (unhide I1') c34)).ints (Ir.inF (Ir.below (unhide I2) c34)).ints)
              clear n1 n2 c34 c4 S2a I1' I2 XV1' XV2 C3
              go_wp2_with fail
              refine (unhide SE).mono ?_
              rintro x y5 ⟨rfl, c5⟩
              have P5 := hide (below_far (unhide P4) c5)
              clear c5 SE a0 a1 a2 a3 a4 a5 d0 d1 d2 d3 d4 d5
              go_wp2
              go_roundw
              case rel => exact ⟨k + 1, by omega, by omega, by go_num, unhide P5⟩
              case measure => simp [intOf]; omega
            · have g1 : ¬ (k : Int) ≤ (m : Int) := by omega
              go_wp2
              go_ret
              exact ⟨rfl, unhide BK⟩
        · have hne : (t != s) = true := by rw [bne_iff_ne]; exact hts
          clear hts
          go_wp2
          go_roundw
          case rel => exact ⟨m - 1, by omega, by congr 1; omega, unhide A2⟩
          case measure => simp [intOf]; omega
      · obtain rfl : m = 0 := by omega
        go_wp2
        go_ret
        exact ⟨rfl, unhide B⟩
end Go.Proofs.Ytmjiccpombkdlaa

/- SpecPairs: the law's walk. -/
import Derived.Test.YtndpkpkijfplaabGRow
import Derived.Test.YtndpkpkijfplaabGWithin
namespace Go.Proofs.Ytndpkpkijfplaab
open Go.RowKit Go.Maps
attribute [local go_sem ↓] Go.wp_at_zero Go.wp_at_succ

/-- the entries that the law asks for. -/
def prE (xs : List Int) (i : Nat) : En := askE (1 + (xs.getD i 0 % 5).toNat) (i + 1)
def prs (xs : List Int) (k : Nat) : List En := (List.range k).map (prE xs)
theorem prs_len (xs : List Int) (k : Nat) : (prs xs k).length = k := by simp [prs]
theorem prs_succ (xs : List Int) (k : Nat) : prs xs (k + 1) = prs xs k ++ [prE xs k] := by simp [prs, List.range_succ]
/-- an entry with another text. -/
def elseE (e : En) : En := { e with text := ⟨#[101, 108, 115, 101]⟩ }
theorem two8_size (c s : Nat) : (two8 c s).size = 2 := rfl
theorem fits_front (es : List En) (k : Nat) : fitsOf es (es.take k) = true := by
  rw [fitsOf_iff, List.length_take, List.take_take]
  congr 1; omega
theorem fits_front' (es : List En) (k : Nat) : fitsOf (es.take k) es = true := by
  rw [fitsOf_iff, List.length_take, List.take_take]
  congr 1; omega
theorem fits_nil (es : List En) : fitsOf [] es = true := by rw [fitsOf_iff]; simp
theorem fits_no {es fs : List En} {i : Nat} {a b : En} (ha : es[i]? = some a) (hb : fs[i]? = some b) (h : a ≠ b) : fitsOf es fs = false := by
  cases e : fitsOf es fs with
  | false => rfl
  | true =>
    rw [fitsOf_iff] at e
    have h1 : (es.take fs.length)[i]? = some a := by rw [List.getElem?_take, if_pos (List.getElem?_eq_some_iff.1 hb).1]; exact ha
    rw [e, List.getElem?_take, if_pos (List.getElem?_eq_some_iff.1 ha).1, hb] at h1
    cases h1; exact absurd rfl h
set_option maxRecDepth 20000 in
set_option maxHeartbeats 4000000 in
theorem pairs_walk (ao : Option Addr) (n cap : Nat) (xs : List Int) (y t : Int) (hx : xs.length = n) (hn : n ≤ maxLen) (w : World) (ha : IntsR w ao xs) :
    Calls Try.prog 3 #[.slice ao n cap, .int .i64 y, .int .i64 t] w fun e w' => e = .returned (.bool true) ∧ Below w.heap.size w w' := by
  have HA := hide ha
  have HX := hide hx
  have NK := hide (known_any w)
  have HN := hide hn
  clear ha hx hn
  go_enter Try.func3, Try.ntmps3
  go_wp2_with fail
  refine (unhide NK).mono ?_
  rintro z w0 ⟨rfl, b0⟩
  have B0 := hide b0
  clear b0 NK
  go_wp2_with fail
  go_loopw [7, 8] (fun v i wr => ∃ k : Nat, k ≤ n ∧ k ≤ 30 ∧ i = .int .i64 (k : Int) ∧ ER w.heap.size wr v (prs xs k) ∧ Below w.heap.size w wr) (fun _ i _ => 30 - (intOf i).toNat)
  case atStart => exact ⟨0, Nat.zero_le _, Nat.zero_le _, rfl, ER.nil _ _, unhide B0⟩
  case round =>
    obtain ⟨k, hk, hk30, rfl, her, hb⟩ := hrel
    have ER0 := hide her
    have HB := hide hb
    clear her hb
    go_upto_region 5 with fail
    go_cut [20] (fun t wc => t = .bool (decide (k < n ∧ k < 30)) ∧ wc = wr)
    case first =>
      by_cases hlt : k < n
      · have q : (k : Int) < n := by omega
        by_cases hlt2 : k < 30
        · have q2 : (k : Int) < 30 := by omega
          have hd := hide (decide_eq_true (And.intro hlt hlt2))
          go_wp2
          go_meet
          exact ⟨by rw [unhide hd], rfl⟩
        · have q2 : ¬ (k : Int) < 30 := by omega
          have hd := hide (decide_eq_false (fun h : k < n ∧ k < 30 => hlt2 h.2))
          go_wp2
          go_meet
          exact ⟨by rw [unhide hd], rfl⟩
      · have q : ¬ (k : Int) < n := by omega
        have hd := hide (decide_eq_false (fun h : k < n ∧ k < 30 => hlt h.1))
        go_wp2
        go_meet
        exact ⟨by rw [unhide hd], rfl⟩
    case rest =>
      obtain ⟨h20, hwc⟩ := hcut
      replace hwc := hwc.symm
      subst hwc
      have h20' : u20 = .bool (decide (k < n ∧ k < 30)) := h20
      subst h20'
      clear h20
      by_cases hc : k < n ∧ k < 30
      · rw [decide_eq_true hc]
        obtain ⟨hlt, hlt2⟩ := hc
        obtain ⟨a1, rfl, h1⟩ := unhide HA k (by rw [unhide HX]; exact hlt)
        have c1 := ((unhide HB).cell (blk_lt h1)).trans h1
        clear h1
        have q0 : (0 : Int) ≤ (k : Int) := by omega
        have q1 : (k : Int) < (n : Int) := by omega
        obtain ⟨x, hxk⟩ : ∃ x, xs.getD k 0 = x := ⟨_, rfl⟩
        rw [hxk] at c1
        obtain ⟨r, hr⟩ : ∃ r, (x % 5).toNat = r := ⟨_, rfl⟩
        have hr5 : x % 5 = (r : Int) := by omega
        have hr6 : r < 5 := by omega
        have W5 := hide (fun Y => within_at x 5 r hr5 Y (by omega) (by omega))
        have AK := ask_any (1 + r) (k + 1) (by omega) (by omega) wr
        rw [show (((1 + r : Nat)) : Int) = 1 + (r : Int) by omega, show (((k + 1 : Nat)) : Int) = (k : Int) + 1 by omega] at AK
        have hpe : prE xs k = askE (1 + r) (k + 1) := by unfold prE; rw [hxk, hr]
        rw [← hpe] at AK
        have hems : (prE xs k).ms = [] := by rw [hpe]; rfl
        obtain ⟨e, he⟩ : ∃ e, prE xs k = e := ⟨_, rfl⟩
        rw [he] at AK hems
        have AK2 : Calls Try.prog 5 #[.int .i64 (1 + (r : Int)), .int .i64 ((k : Int) + 1)] wr fun z w' => z = .returned (.agg #[.int .i64 e.kind, .int .i64 e.client, .int .i64 e.seq, .string e.text, .slice none 0 0, .int .i64 e.dest]) ∧ Below wr.heap.size wr w' := by
          refine AK.mono fun z w' h => ⟨?_, h.2⟩
          have := h.1
          unfold ev at this
          rw [hems] at this
          exact this
        have AKH := hide AK2
        have HE := hide he
        have HMS := hide hems
        have HK := hide (And.intro hk hlt2)
        clear AK AK2 hpe hxk hr hr5 hk hk30 he hems
        go_upto_region 7 with fail
        go_wp2_with (go_at_call 6; refine (unhide W5 _).mono ?_; rintro z w1 ⟨rfl, rfl⟩)
        refine (unhide AKH).mono ?_
        rintro z w1 ⟨rfl, b1⟩
        obtain ⟨V, hV⟩ : ∃ V, w1.alloc (.cells #[.int .i64 e.kind, .int .i64 e.client, .int .i64 e.seq, .string e.text, .slice none 0 0, .int .i64 e.dest] 26) = V := ⟨_, rfl⟩
        have bV : Below w1.heap.size w1 V := by rw [← hV]; exact (Below.refl _ w1).alloc (Nat.le_refl _) _
        have xV : V.heap[w1.heap.size]? = some (.cells (c6 e).toArray 26 (0, 0)) := by rw [← hV]; exact box_at w1 _
        have bb := below_far b1 bV
        have hwb := (unhide HB).size
        obtain ⟨v', w2, hr2, her2, hg2⟩ := ((unhide ER0).below bb).push 24 w1.heap.size e xV (unhide HMS) (by rw [prs_len]; omega) (Nat.le_trans hwb bb.size)
        have FIN : Hid (ER w.heap.size w2 v' (prs xs (k + 1)) ∧ Below w.heap.size w w2) := by
          refine ⟨?_, ((unhide HB).trans (bb.mono hwb)).grown hg2 (Nat.le_trans hwb bb.size) (fun k' hk' => (((unhide ER0).below bb).1.lt k' hk').1)⟩
          rw [prs_succ, unhide HE]; exact her2
        have HV := hide hV
        have HR2 := hide hr2
        clear hV bV xV bb hwb her2 hg2 hr2 b1
        go_wp2_with (rw [unhide HV]; refine wpList_appEn rfl (.tmp 23) (.tmp 33) 24 rfl rfl rfl (unhide HR2) ?_)
        go_roundw
        case rel => exact ⟨k + 1, (unhide HK).1 |> fun _ => by omega, by omega, by go_num, unhide FIN⟩
        case measure => simp [intOf]; omega
      · rw [decide_eq_false hc]
        clear hc
        obtain ⟨lo, lc, rfl, hlc, -, -⟩ := (unhide ER0).slice
        have hll := prs_len xs k
        obtain ⟨l, hl⟩ : ∃ l, prs xs k = l := ⟨_, rfl⟩
        have ER1 : Hid (ER w.heap.size wr (.slice lo l.length lc) l) := by
          have := unhide ER0
          rw [hl] at this
          exact this
        rw [hl] at hll hlc
        rw [hl]
        have HALL : Hid (∀ e ∈ l, e.text.size = 2) := hide (fun e he => by
          rw [← hl] at he
          obtain ⟨i, _, rfl⟩ := List.mem_map.1 he
          rfl)
        rw [hll] at ER1 hlc
        rw [hll]
        have ESL : Hid (EsR (fun b => w.heap.size ≤ b ∧ b < wr.heap.size) wr lo l) := (unhide ER1).esR
        obtain ⟨j, hj⟩ : ∃ j, (y % ((k + 1 : Nat) : Int)).toNat = j := ⟨_, rfl⟩
        have hy0 := Int.emod_nonneg y (show ((k + 1 : Nat) : Int) ≠ 0 by omega)
        have hy1 := Int.emod_lt_of_pos y (show (0 : Int) < ((k + 1 : Nat) : Int) by omega)
        have WJ := hide (fun Y => within_at y ((k + 1 : Nat) : Int) j (by omega) Y (by omega) (by omega))
        have hjk : j ≤ k := by omega
        have p0 : (0 : Int) ≤ (j : Int) := by omega
        have p1 : (j : Int) ≤ (k : Int) := by omega
        have p2 : (j : Int) ≤ (lc : Int) := by omega
        have hljl : (l.take j).length = j := by rw [List.length_take]; omega
        have FA := hide (fun (Y : World) (hY : Below wr.heap.size wr Y) => fits_any lo lo k j lc lc l (l.take j) hll hljl (by omega) (by omega) hlc (by omega) Y ((unhide ESL).below hY) (((unhide ESL).take j).below hY))
        have FB := hide (fun (Y : World) (hY : Below wr.heap.size wr Y) => fits_any lo lo j k lc lc (l.take j) l hljl hll (by omega) (by omega) (by omega) hlc Y (((unhide ESL).take j).below hY) ((unhide ESL).below hY))
        have FC := hide (fun (Y : World) (hY : Below wr.heap.size wr Y) => fits_any (F := fun _ => True) none lo 0 k 0 lc [] l rfl hll (by omega) (by omega) (by omega) hlc Y (EsR.nil _ _ _) ((unhide ESL).below hY))
        rw [fits_front] at FA
        rw [fits_front'] at FB
        rw [fits_nil] at FC
        have HJ := hide hjk
        have HLL := hide hll
        have HL30 := hide hk30
        have HLC := hide hlc
        rw [show ((k + 1 : Nat) : Int) = (k : Int) + 1 by omega] at WJ
        have wk1 : wrap64 ((k : Int) + 1) = (k : Int) + 1 := by unfold wrap64; omega
        clear hj hy0 hy1 hjk hljl hll hl hk hk30 hlc ER0
        go_upto_region 8 with fail
        go_wp2_with (go_at_call 6; refine (unhide WJ _).mono ?_; rintro z w1 ⟨rfl, hw1⟩; replace hw1 := hw1.symm; subst hw1)
        refine (unhide FA wr (Below.refl _ _)).mono ?_
        rintro z w1 ⟨rfl, b1⟩
        have B1 := hide b1
        clear b1 FA WJ
        go_wp2_with fail
        refine (unhide FB w1 (unhide B1)).mono ?_
        rintro z w2 ⟨rfl, b2⟩
        have B2 := hide (below_far (unhide B1) b2)
        clear b2 FB B1
        go_wp2_with fail
        refine (unhide FC w2 (unhide B2)).mono ?_
        rintro z w3 ⟨rfl, b3⟩
        have B3 := hide (below_far (unhide B2) b3)
        clear b3 FC B2
        by_cases hj0 : j = 0
        · subst hj0
          have FIN := hide ((unhide HB).trans ((unhide B3).mono (unhide HB).size))
          go_wp2
          go_ret
          exact ⟨rfl, unhide FIN⟩
        · have q9 : ((j : Int) == 0) = false := by rw [beq_eq_false_iff_ne]; omega
          obtain ⟨V, hV⟩ : ∃ V, w3.alloc (.cells #[] 26) = V := ⟨_, rfl⟩
          have bV : Below w3.heap.size w3 V := by rw [← hV]; exact (Below.refl _ w3).alloc (Nat.le_refl _) _
          have eV : ER w3.heap.size V (.slice (some ⟨w3.heap.size, 0, none⟩) 0 0) [] := by rw [← hV]; exact ER.empty w3
          have hlV := (unhide ER1).below (below_far (unhide B3) bV)
          have hjl : j ≤ l.length := by rw [unhide HLL]; exact unhide HJ
          obtain ⟨v', w4, hr4, her4, hg4⟩ := eV.pushs 24 hlV j lc hjl (Nat.zero_le _) (by rw [unhide HLL]; have := unhide HL30; omega) bV.size
          rw [List.nil_append] at her4
          have h4 : Below w3.heap.size w3 w4 := bV.grown hg4 bV.size (fun k' hk' => by cases hk'; exact Nat.le_refl _)
          have hljl : (l.take j).length = j := by rw [List.length_take]; omega
          obtain ⟨mo, mc, rfl, hmc, hmn, hma⟩ := her4.slice
          rw [hljl] at hr4 her4 hmc
          obtain ⟨a, rfl⟩ : ∃ a, mo = some a := by
            cases mo with
            | none => have := hmn rfl; rw [this] at hljl; simp at hljl; omega
            | some a => exact ⟨a, rfl⟩
          obtain ⟨mb, rfl, hmb1, hmb2⟩ := hma a rfl
          clear hma hmn
          obtain ⟨i, hi⟩ : ∃ i, (t % (j : Int)).toNat = i := ⟨_, rfl⟩
          have ht0 := Int.emod_nonneg t (show (j : Int) ≠ 0 by omega)
          have ht1 := Int.emod_lt_of_pos t (show (0 : Int) < (j : Int) by omega)
          have hij : i < j := by omega
          have WI := hide (fun Y => within_at t (j : Int) i (by omega) Y (by omega) (by have := unhide HJ; have := unhide HL30; omega))
          obtain ⟨e, he⟩ : ∃ e, (l.take j)[i]? = some e := ⟨_, List.getElem?_eq_getElem (by omega)⟩
          obtain ⟨es5, hc5, hf5⟩ := her4.esR_set he ⟨#[101, 108, 115, 101]⟩
          have m0 : (0 : Int) ≤ (i : Int) := by omega
          have m1 : (i : Int) < (j : Int) := by omega
          have hle : l[i]? = some e := by rw [List.getElem?_take, if_pos hij] at he; exact he
          have hm2 : ((l.take j).set i { e with text := ⟨#[101, 108, 115, 101]⟩ })[i]? = some { e with text := ⟨#[101, 108, 115, 101]⟩ } := by
            rw [List.getElem?_set, if_pos rfl, if_pos (by omega)]
          have hne : ({ e with text := ⟨#[101, 108, 115, 101]⟩ } : En) ≠ e := fun h => by
            have h2 := unhide HALL e (List.mem_of_getElem? hle)
            rw [← h] at h2
            cases h2
          have fno := fits_no hm2 hle hne
          have fno2 := fits_no hle hm2 (fun h => hne h.symm)
          obtain ⟨W5, hW5⟩ : ∃ W5, w4.setCell ⟨mb, i * 6 + 3, none⟩ (.string ⟨#[101, 108, 115, 101]⟩) = W5 := ⟨_, rfl⟩
          have b45 : Below w3.heap.size w3 W5 := by rw [← hW5]; exact h4.setCell (p := ⟨mb, i * 6 + 3, none⟩) hmb1 _
          rw [hW5] at es5
          have bw5 := below_far (unhide B3) b45
          have hml : ((l.take j).set i { e with text := ⟨#[101, 108, 115, 101]⟩ }).length = j := by rw [List.length_set]; exact hljl
          have FD := hide (fun (Y : World) (hY : Below W5.heap.size W5 Y) => fits_any (some ⟨mb, 0, none⟩) lo j k mc lc _ l hml (unhide HLL) (by have := unhide HJ; have := unhide HL30; omega) (by have := unhide HL30; omega) hmc (unhide HLC) Y (es5.below hY) ((unhide ESL).below (below_far bw5 hY)))
          have FE := hide (fun (Y : World) (hY : Below W5.heap.size W5 Y) => fits_any lo (some ⟨mb, 0, none⟩) k j lc mc l _ (unhide HLL) hml (by have := unhide HL30; omega) (by have := unhide HJ; have := unhide HL30; omega) (unhide HLC) hmc Y ((unhide ESL).below (below_far bw5 hY)) (es5.below hY))
          rw [fno] at FD
          rw [fno2] at FE
          have FIN := hide ((unhide HB).trans (bw5.mono (unhide HB).size))
          have HV := hide hV
          have HR4 := hide hr4
          have HW5 := hide hW5
          clear hV bV eV hlV hjl hr4 her4 hg4 h4 hljl hmc hmb1 hmb2 hi ht0 ht1 hij he es5 hle hm2 hne fno fno2 b45 bw5 hml hW5
          have hbs := @empty_lit
          go_upto_region 13 with fail
          go_wp2_with (first
            | (rw [unhide HV]; with_reducible refine wpList_appEn rfl (.tmp 61) (.tmp 64) 24 rfl (by with_unfolding_all rfl) (by with_unfolding_all rfl) (unhide HR4) ?_)
            | (go_at_call 6; refine (unhide WI _).mono ?_; rintro z w1 ⟨rfl, rfl⟩)
            | fail)
          rw [unhide HW5]
          refine (unhide FD W5 (Below.refl _ _)).mono ?_
          rintro z y1 ⟨rfl, d1⟩
          have D1 := hide d1
          clear d1 FD
          go_wp2_with fail
          refine (unhide FE y1 (unhide D1)).mono ?_
          rintro z y2 ⟨rfl, d2⟩
          have FIN2 := hide ((unhide FIN).trans ((below_far (unhide D1) d2).mono (unhide FIN).size))
          clear d2 FE D1
          go_wp2
          go_ret
          exact ⟨rfl, unhide FIN2⟩
end Go.Proofs.Ytndpkpkijfplaab

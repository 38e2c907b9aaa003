/- ClientFillers: the walk. -/
import Derived.Test.YtkalpdfigdaalaaUEsA
import Derived.Deep.QuietTactic
import Derived.BigQuiet
import Derived.Deep.DeepCutAuto
import Derived.Deep.CutBlock
namespace Go.Proofs.Ytkalpdfigdaalaa
open Go.RowKit Go.Maps
attribute [local go_sem ↓] Go.wp_at_zero Go.wp_at_succ

/-- the box of an entry that a law makes. -/
abbrev boxB (k c s : Int) : Obj := .cells #[.int .i64 k, .int .i64 c, .int .i64 s, .string ⟨#[]⟩, .slice none 0 0, .int .i64 0] 31
/-- what the loop keeps. -/
structure FiI (w0 wr : World) (p q : Nat) (es : List En) (i : Nat) : Prop where
  own : Own w0 (fun _ => False) wr p q es
  rise : Rise es
  len : es.length ≤ i
  size : w0.heap.size ≤ wr.heap.size
set_option maxRecDepth 20000 in
set_option maxHeartbeats 8000000 in
theorem fillers_walk (ao : Option Addr) (n cap : Nat) (ys : List Int) (hn : ys.length = n) (c0 s0 : Int) (hc0 : wf64 c0) (w : World) (h : IntsR w ao ys) : Calls Try.prog 6 #[.slice ao n cap, .int .i64 c0, .int .i64 s0] w fun e w' => e = .returned (.bool true) ∧ Below w.heap.size w w' := by
  have C0 := hide (known_any w)
  have HI := hide h
  have HN := hide hn
  have HC := hide hc0
  clear h hn hc0
  go_enter Try.func6, Try.ntmps6
  go_wp2_with fail
  refine (unhide C0).mono ?_
  rintro e w1 ⟨rfl, b1⟩
  have C1 := hide (new_any w1)
  have B1 := hide b1
  clear b1 C0
  go_wp2_with fail
  refine (unhide C1).mono ?_
  rintro x w2 ⟨p, q, rfl, h2, b2⟩
  have A0 : Hid (FiI w1 w2 p q [] 0) := hide ⟨⟨_, h2, fun k hk => ⟨hk.1, fun x => x⟩⟩, Rise.nil, Nat.le_refl _, b2.size⟩
  have B2 := hide (below_far (unhide B1) b2)
  clear h2 b2 C1
  go_wp2_with fail
  go_loopw [9, 8, 10, 11, 12, 13, 14, 15, 16, 6] (fun i m _ _ _ _ _ _ _ _ wr => ∃ (j : Nat) (es : List En), i = .int .i64 j ∧ m = .int .i64 (es.length : Int) ∧ j ≤ 40 ∧ FiI w1 wr p q es j ∧ Below w.heap.size w wr) (fun i _ _ _ _ _ _ _ _ _ _ => 40 - (intOf i).toNat)
  case atStart => exact ⟨0, [], rfl, rfl, by omega, unhide A0, unhide B2⟩
  case round =>
    obtain ⟨j, es, rfl, rfl, hj, ha, hb⟩ := hrel
    obtain ⟨wo, hwo⟩ : ∃ wo, wo = wr := ⟨_, rfl⟩
    subst hwo
    obtain ⟨L, hL⟩ : ∃ L, es.length = L := ⟨_, rfl⟩
    rw [hL]
    have HL := hide hL
    have hLj := ha.len
    rw [hL] at hLj
    have AI := hide ha
    have HB := hide hb
    clear ha hb hL
    by_cases h1 : j < n
    · by_cases h2 : j < 40
      · have q1 : (j : Int) < (n : Int) := by omega
        have q2 : (j : Int) < 40 := by omega
        have q0 : (0 : Int) ≤ (j : Int) := by omega
        obtain ⟨ad, rfl, hyw⟩ := (unhide HI) j (by rw [unhide HN]; exact h1)
        have hy := ((unhide HB).cell (blk_lt hyw)).trans hyw
        obtain ⟨y0, hs⟩ : ∃ s, ys.getD j 0 = s := ⟨_, rfl⟩
        rw [hs] at hy
        obtain ⟨k7, hk, -, CW⟩ := within_nat y0 7 (by decide) (by decide)
        have CW' := hide CW
        obtain ⟨K, hK⟩ : ∃ K, (k7 : Int) - 1 = K := ⟨_, rfl⟩
        have hw1 : IntKind.i64.wrap ((k7 : Int) - 1) = K := by rw [IntWalk.i64_in _ (by omega)]; exact hK
        have hw2 : IntKind.i64.wrap ((j : Int) + 1) = (j : Int) + 1 := by rw [IntWalk.i64_in _ (by omega)]
        clear CW hyw hs hK
        go_wp2_with fail
        refine (unhide CW' _).mono ?_
        rintro e w3 ⟨rfl, rfl⟩
        obtain ⟨W, hW⟩ : ∃ W, w3.alloc (boxB K 1 ((j : Int) + 1)) = W := ⟨_, rfl⟩
        have xW : W.heap[w3.heap.size]? = some (.cells #[.int .i64 K, .int .i64 1, .int .i64 ((j : Int) + 1), .string ⟨#[]⟩, .slice none 0 0, .int .i64 0] 31 (0, 0)) := by rw [← hW]; exact box_at _ _
        have bW : Below w3.heap.size w3 W := by rw [← hW]; exact (Below.refl _ w3).alloc (Nat.le_refl _) _
        have HW := hide hW
        have XW := hide xW
        have BW := hide bW
        clear hy hW xW bW
        go_upto_if 41 with fail
        simp only [boxB] at HW
        rw [unhide HW]
        go_cut [] (fun wc => ∃ C : Int, wf64 C ∧ wc.heap[w3.heap.size]? = some (.cells #[.int .i64 K, .int .i64 C, .int .i64 ((j : Int) + 1), .string ⟨#[]⟩, .slice none 0 0, .int .i64 0] 31 (0, 0)) ∧ Below w3.heap.size w3 wc)
        case first =>
          have fz : W.frozen? ⟨w3.heap.size, 1, none⟩ = false := free_of_block (unhide XW)
          have cz : W.cell? ⟨w3.heap.size, 1, none⟩ = some (.int .i64 1) := (cell_of_block (unhide XW)).trans rfl
          obtain ⟨r5, hr5⟩ : ∃ r, (j : Int) % 5 = r := ⟨_, rfl⟩
          by_cases h5 : r5 = 4
          · subst h5
            go_wp2_with fail
            go_meet
            case rel => exact ⟨c0, unhide HC, setCell_block (unhide XW), (unhide BW).setCell (p := ⟨w3.heap.size, 1, none⟩) (Nat.le_refl _) _⟩
          · have h5' : (r5 == 4) = false := by rw [beq_eq_false_iff_ne]; exact h5
            go_wp2_with fail
            go_meet
            case rel => exact ⟨1, wf_range (by decide), unhide XW, unhide BW⟩
        case rest =>
          obtain ⟨C, hC, xC, bC⟩ := hcut
          obtain ⟨wd, hwd⟩ : ∃ wd, wd = wc := ⟨_, rfl⟩
          subst hwd
          have XC := hide xC
          have BC := hide bC
          have HCC := hide hC
          clear hC xC bC
          go_upto_if 46 with fail
          go_cut [] (fun wc => ∃ S : Int, wc.heap[w3.heap.size]? = some (.cells #[.int .i64 K, .int .i64 C, .int .i64 S, .string ⟨#[]⟩, .slice none 0 0, .int .i64 0] 31 (0, 0)) ∧ Below w3.heap.size w3 wc)
          case first =>
            have fz : wd.frozen? ⟨w3.heap.size, 2, none⟩ = false := free_of_block (unhide XC)
            have cz : wd.cell? ⟨w3.heap.size, 2, none⟩ = some (.int .i64 ((j : Int) + 1)) := (cell_of_block (unhide XC)).trans rfl
            obtain ⟨r7, hr7⟩ : ∃ r, (j : Int) % 7 = r := ⟨_, rfl⟩
            by_cases h7 : r7 = 6
            · subst h7
              go_wp2_with fail
              go_meet
              case rel => exact ⟨s0, setCell_block (unhide XC), (unhide BC).setCell (p := ⟨w3.heap.size, 2, none⟩) (Nat.le_refl _) _⟩
            · have h7' : (r7 == 6) = false := by rw [beq_eq_false_iff_ne]; exact h7
              go_wp2_with fail
              go_meet
              case rel => exact ⟨(j : Int) + 1, unhide XC, unhide BC⟩
          case rest =>
            obtain ⟨S, xS, bS⟩ := hcut
            obtain ⟨we, hwe⟩ : ∃ we, we = wc := ⟨_, rfl⟩
            subst hwe
            have CA := hide (own_all ((unhide AI).own.below bS) (unhide HL) (by omega))
            have XS := hide xS
            have BS := hide bS
            clear xS bS XC BC XW BW HW
            go_wp2_with fail
            refine (unhide CA).mono ?_
            rintro e w4 ⟨b, rfl, er, b4⟩
            have ER := hide er
            have XS4 := hide (Below.stay b4 (unhide XS))
            have BS4 := hide (below_far (unhide BS) b4)
            clear er b4 CA XS BS
            go_wp2_with fail
            go_loopw [13, 11] (fun kv lv wr => ∃ k : Nat, k ≤ L ∧ kv = .int .i64 k ∧ lv = .int .i64 (topOf C (es.take k)) ∧ Below w4.heap.size w4 wr) (fun kv _ _ => L - (intOf kv).toNat)
            case atStart => exact ⟨0, Nat.zero_le _, rfl, rfl, Below.refl _ _⟩
            case round =>
              obtain ⟨k, hkL, rfl, rfl, hbk⟩ := hrel
              obtain ⟨T, hT⟩ : ∃ T, topOf C (es.take k) = T := ⟨_, rfl⟩
              rw [hT]
              have HT := hide hT
              have HBK := hide hbk
              clear hT hbk
              by_cases hlt : k < L
              · obtain ⟨g, hg⟩ : ∃ g, es[k]? = some g := ⟨_, List.getElem?_eq_getElem (by rw [unhide HL]; exact hlt)⟩
                obtain ⟨b', mo, mc, eb, -, c0, c1, c2, -, -, -, -, -, -⟩ := ((unhide ER).below (unhide HBK)).at hg
                cases eb
                have TK := topOf_take (c := C) hg
                rw [unhide HT] at TK
                have x4 := Below.stay (unhide HBK) (unhide XS4)
                have e1 : wr.cell? ⟨w3.heap.size, 1, none⟩ = some (.int .i64 C) := (cell_of_block x4).trans rfl
                obtain ⟨gc, hgc⟩ : ∃ c, g.client = c := ⟨_, rfl⟩
                obtain ⟨gs, hgs⟩ : ∃ c, g.seq = c := ⟨_, rfl⟩
                rw [hgc] at c1 TK
                rw [hgs] at c2 TK
                have HTK := hide TK
                have q3 : (k : Int) < (L : Int) := by omega
                clear hg c0 x4 hgc hgs TK
                by_cases hcc : gc = C
                · have hcb : (gc == C) = true := by rw [beq_iff_eq]; exact hcc
                  by_cases hm : T < gs
                  · have NT : topOf C (es.take (k + 1)) = gs := by rw [unhide HTK, if_pos hcc]; omega
                    have HNT := hide NT
                    have hmx : max T gs = gs := by omega
                    clear NT hcc
                    go_wp2_with fail
                    go_quiet (fail)
                    go_wp2
                    go_roundw
                    case rel => exact ⟨k + 1, by omega, by go_num, by rw [unhide HNT], (unhide HBK).trans ((drewN_below _ _).mono (unhide HBK).size)⟩
                    case measure => simp [intOf]; omega
                  · have NT : topOf C (es.take (k + 1)) = T := by rw [unhide HTK, if_pos hcc]; omega
                    have HNT := hide NT
                    have hmx : max T gs = T := by omega
                    clear NT hcc
                    go_wp2_with fail
                    go_quiet (fail)
                    go_wp2
                    go_roundw
                    case rel => exact ⟨k + 1, by omega, by go_num, by rw [unhide HNT], (unhide HBK).trans ((drewN_below _ _).mono (unhide HBK).size)⟩
                    case measure => simp [intOf]; omega
                · have hcb : (gc == C) = false := by rw [beq_eq_false_iff_ne]; exact hcc
                  have NT : topOf C (es.take (k + 1)) = T := by rw [unhide HTK, if_neg hcc]
                  have HNT := hide NT
                  clear NT hcc
                  go_wp2_with fail
                  go_quiet (fail)
                  go_wp2
                  go_roundw
                  case rel => exact ⟨k + 1, by omega, by go_num, by rw [unhide HNT], (unhide HBK).trans ((drewN_below _ _).mono (unhide HBK).size)⟩
                  case measure => simp [intOf]; omega
              · obtain rfl : k = L := by omega
                have MT := mayPut_top (unhide AI).rise (bare K C S)
                rw [show (bare K C S).client = C from rfl, show (bare K C S).seq = S from rfl, show (bare K C S).kind = K from rfl] at MT
                rw [List.take_of_length_le (by rw [unhide HL]; exact Nat.le_refl _)] at HT
                rw [unhide HT] at MT
                have HMT := hide MT
                have x4 := Below.stay (unhide HBK) (unhide XS4)
                have bo := below_far (unhide BS4) (unhide HBK)
                have CP := hide (own_put (w := wr) ((unhide AI).own.below bo) (Nat.le_trans (unhide AI).size bo.size) (fun x hx => hx.elim) (by have := (unhide AI).len; omega) (unhide AI).rise (bare K C S) none 0 0 rfl (by decide) (IntsR.nil _ _) (unhide HCC))
                have e0 : wr.cell? ⟨w3.heap.size, 0, none⟩ = some (.int .i64 K) := (cell_of_block x4).trans rfl
                have e1 : wr.cell? ⟨w3.heap.size, 1, none⟩ = some (.int .i64 C) := (cell_of_block x4).trans rfl
                have e2 : wr.cell? ⟨w3.heap.size, 2, none⟩ = some (.int .i64 S) := (cell_of_block x4).trans rfl
                have e3 : wr.cell? ⟨w3.heap.size, 3, none⟩ = some (.string ⟨#[]⟩) := (cell_of_block x4).trans rfl
                have e4 : wr.cell? ⟨w3.heap.size, 4, none⟩ = some (.slice none 0 0) := (cell_of_block x4).trans rfl
                have e5 : wr.cell? ⟨w3.heap.size, 5, none⟩ = some (.int .i64 0) := (cell_of_block x4).trans rfl
                have HBO := hide bo
                have q3 : ¬ (k : Int) < (k : Int) := by omega
                clear MT x4 bo HBK XS4
                go_upto_region 20 with fail
                go_cut [14] (fun v wc => v = .bool (decide (mayPut es (bare K C S))) ∧ wr = wc)
                case first =>
                  by_cases g1 : K ≥ 1
                  · by_cases g2 : K ≤ 3
                    · by_cases g3 : C ≥ 1
                      · by_cases g4 : S > T
                        · have D : decide (mayPut es (bare K C S)) = true := decide_eq_true ((unhide HMT).2 ⟨by omega, g3, g4⟩)
                          have HD := hide D
                          clear D
                          go_wp2_with fail
                          go_meet
                          case rel => exact ⟨by rw [unhide HD], rfl⟩
                        · have D : decide (mayPut es (bare K C S)) = false := decide_eq_false (fun x => g4 ((unhide HMT).1 x).2.2)
                          have HD := hide D
                          clear D
                          go_wp2_with fail
                          go_meet
                          case rel => exact ⟨by rw [unhide HD], rfl⟩
                      · have D : decide (mayPut es (bare K C S)) = false := decide_eq_false (fun x => g3 ((unhide HMT).1 x).2.1)
                        have HD := hide D
                        clear D
                        go_wp2_with fail
                        go_meet
                        case rel => exact ⟨by rw [unhide HD], rfl⟩
                    · have D : decide (mayPut es (bare K C S)) = false := decide_eq_false (fun x => by have := ((unhide HMT).1 x).1; omega)
                      have HD := hide D
                      clear D
                      go_wp2_with fail
                      go_meet
                      case rel => exact ⟨by rw [unhide HD], rfl⟩
                  · have D : decide (mayPut es (bare K C S)) = false := decide_eq_false (fun x => by have := ((unhide HMT).1 x).1; omega)
                    have HD := hide D
                    clear D
                    go_wp2_with fail
                    go_meet
                    case rel => exact ⟨by rw [unhide HD], rfl⟩
                case rest =>
                  obtain ⟨rfl, hwc⟩ := hcut
                  subst hwc
                  by_cases hm : mayPut es (bare K C S)
                  · have CPX := unhide CP
                    unfold placeOf putOf at CPX
                    rw [if_pos hm, if_pos hm, decide_eq_true hm, unhide HL] at CPX
                    have CPY := hide CPX
                    have FIN : Hid (∀ w5 : World, Own w1 (fun _ => False) w5 p q (es ++ [bare K C S]) → Below w1.heap.size wr w5 → FiI w1 w5 p q (es ++ [bare K C S]) (j + 1)) := hide (fun w5 ho hbb => ⟨ho, (unhide AI).rise.snoc (findOf_new hm.2 (unhide AI).rise).2, by have := (unhide AI).len; simp; omega, Nat.le_trans (Nat.le_trans (unhide AI).size (unhide HBO).size) hbb.size⟩)
                    rw [decide_eq_true hm]
                    have hw3 : IntKind.i64.wrap ((k : Int) + 1) = (k : Int) + 1 := by rw [IntWalk.i64_in _ (by omega)]
                    clear CP CPX hm HMT
                    go_wp2_with fail
                    refine (unhide CPY).mono ?_
                    rintro e w5 ⟨rfl, o5, b5, -⟩
                    have CL := hide (own_len o5)
                    have F5 := hide (unhide FIN _ o5 b5)
                    have B5 := hide ((unhide HB).trans (((unhide HBO).mono (unhide HB).size).trans (b5.mono (unhide B1).size)))
                    have LE : ((es ++ [bare K C S]).length : Int) = (k : Int) + 1 := by simp [unhide HL]
                    rw [LE] at CL
                    have HLE := hide LE
                    clear o5 b5 CPY FIN LE
                    go_wp2_with fail
                    refine (unhide CL).mono ?_
                    rintro e w6 ⟨rfl, rfl⟩
                    go_wp2_with fail
                    go_roundw
                    case rel => exact ⟨j + 1, es ++ [bare K C S], by go_num, by rw [unhide HLE], by omega, unhide F5, unhide B5⟩
                    case measure => simp [intOf]; omega
                  · have CPX := unhide CP
                    unfold placeOf putOf at CPX
                    rw [if_neg hm, if_neg hm, decide_eq_false hm] at CPX
                    have CPY := hide CPX
                    rw [decide_eq_false hm]
                    clear CP CPX hm HMT
                    go_wp2_with fail
                    refine (unhide CPY).mono ?_
                    rintro e w5 ⟨rfl, o5, b5, -⟩
                    have CL := own_len o5
                    rw [unhide HL] at CL
                    have CL' := hide CL
                    have F5 : Hid (FiI w1 w5 p q es (j + 1)) := hide ⟨o5, (unhide AI).rise, Nat.le_succ_of_le (unhide AI).len, Nat.le_trans (Nat.le_trans (unhide AI).size (unhide HBO).size) b5.size⟩
                    have B5 := hide ((unhide HB).trans (((unhide HBO).mono (unhide HB).size).trans (b5.mono (unhide B1).size)))
                    clear o5 b5 CPY CL
                    go_wp2_with fail
                    refine (unhide CL').mono ?_
                    rintro e w6 ⟨rfl, rfl⟩
                    go_wp2_with fail
                    go_roundw
                    case rel => exact ⟨j + 1, es, by go_num, by rw [unhide HL], by omega, unhide F5, unhide B5⟩
                    case measure => simp [intOf]; omega
      · have q1 : (j : Int) < (n : Int) := by omega
        have q2 : ¬ (j : Int) < 40 := by omega
        go_wp2
        go_ret
        exact ⟨rfl, unhide HB⟩
    · have q1 : ¬ (j : Int) < (n : Int) := by omega
      go_wp2
      go_ret
      exact ⟨rfl, unhide HB⟩
end Go.Proofs.Ytkalpdfigdaalaa

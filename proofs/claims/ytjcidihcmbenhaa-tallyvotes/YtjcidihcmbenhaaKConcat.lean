/- slices.Concat, conf.rising: contracts. -/
import Derived.Test.YtjcidihcmbenhaaKRise
namespace Go.Proofs.Ytjcidihcmbenhaa
open Go.RowKit

/-- lists that lie one behind the other, each a slice of numbers. -/
def Lies (w : World) (a : Addr) (ls : List (Value × List Int)) : Prop :=
  ∀ i p, ls[i]? = some p → w.cell? (a.add i) = some p.1 ∧ ∃ ao n c, p.1 = .slice ao n c ∧ p.2.length = n ∧ IntsR w ao p.2
theorem Lies.below {w w' : World} {a : Addr} {ls : List (Value × List Int)} (h : Lies w a ls) (hb : Below w.heap.size w w') : Lies w' a ls := fun i p hp => by
  obtain ⟨h1, ao, n, c, h2, h3, h4⟩ := h i p hp
  exact ⟨by rw [hb.cell (blk_lt h1)]; exact h1, ao, n, c, h2, h3, h4.below hb⟩
def upto (ls : List (Value × List Int)) (k : Nat) : List Int := ((ls.take k).map (·.2)).flatten
theorem upto_succ {ls : List (Value × List Int)} {k : Nat} {p : Value × List Int} (h : ls[k]? = some p) : upto ls (k + 1) = upto ls k ++ p.2 := by
  unfold upto
  rw [List.take_add_one, h]; simp
theorem upto_le (ls : List (Value × List Int)) (k : Nat) : (upto ls k).length ≤ ((ls.map (·.2)).flatten).length := by
  have e : (ls.map (·.2)).flatten = upto ls k ++ ((ls.drop k).map (·.2)).flatten := by
    unfold upto
    rw [← List.flatten_append, ← List.map_append, List.take_append_drop]
  rw [e, List.length_append]; omega
theorem upto_all (ls : List (Value × List Int)) : upto ls ls.length = (ls.map (·.2)).flatten := by unfold upto; rw [List.take_length]

set_option maxHeartbeats 2000000 in
theorem concat_any (a : Addr) (m c : Nat) (ls : List (Value × List Int)) (hm : ls.length = m) (hl : ((ls.map (·.2)).flatten).length ≤ 1000000) (hm2 : m ≤ 1000000) (w : World) (h : Lies w a ls) :
    Calls Try.prog 50 #[.slice (some a) m c] w fun e w' => ∃ v, e = .returned v ∧ Ir w.heap.size w' v ((ls.map (·.2)).flatten) ∧ Below w.heap.size w w' := by
  have HL := hide h
  have HM := hide hm
  have HT := hide hl
  have UA := hide (upto_all ls)
  rw [unhide HM] at UA
  clear h hm hl
  go_enter Try.func50, Try.ntmps50
  go_wp2_with fail
  go_loopw [11, 3, 5] (fun i s _ wr => ∃ k S : Nat, k ≤ m ∧ i = .int .i64 k ∧ s = .int .i64 S ∧ (upto ls k).length = S ∧ Below w.heap.size w wr) (fun i _ _ _ => m - (intOf i).toNat)
  case atStart => exact ⟨0, 0, Nat.zero_le _, rfl, rfl, rfl, Below.refl _ _⟩
  case round =>
    obtain ⟨k, S, hk, rfl, rfl, hS, hbel⟩ := hrel
    have BEL := hide hbel
    have HS := hide hS
    clear hbel hS
    by_cases hlt : k < m
    · obtain ⟨p, hp⟩ : ∃ p, ls[k]? = some p := ⟨_, List.getElem?_eq_getElem (by rw [unhide HM]; exact hlt)⟩
      obtain ⟨h1, ao, n, cc, e1, e2, h2⟩ := unhide HL k p hp
      have US := hide (upto_succ hp)
      have hle := upto_le ls (k + 1)
      rw [unhide US, List.length_append, unhide HS, e2] at hle
      have hle2 := unhide HT
      have c1 : wr.cell? (a.add k) = some (.slice ao n cc) := by rw [(unhide BEL).cell (blk_lt h1), h1, e1]
      have E2 := hide e2
      have q : (k : Int) < m := by omega
      have hsn : (S : Int) + (n : Int) ≤ 1000000 := by omega
      have hs0 : (0 : Int) ≤ (S : Int) + (n : Int) := by omega
      clear h1 e1 e2 h2 hle hle2 hp
      go_wp2
      go_roundw
      case rel =>
        refine ⟨k + 1, S + n, by omega, by go_num, by go_num, ?_, unhide BEL⟩
        rw [unhide US, List.length_append, unhide HS, unhide E2]
      case measure => simp [intOf]; omega
    · obtain rfl : k = m := by omega
      have GR := hide (grow_ir S (by have := upto_le ls k; have := unhide HT; have := unhide HS; omega) wr)
      go_wp2_with fail
      refine (unhide GR).mono ?_
      rintro e w2 ⟨v, rfl, o2, b2⟩
      have O2 := hide o2
      have B2 := hide ((unhide BEL).trans (b2.mono (unhide BEL).size))
      have sb := (unhide BEL).size
      clear o2 b2 GR
      go_wp2_with fail
      go_loopw [27, 6, 8] (fun i s _ wq => ∃ j : Nat, j ≤ k ∧ i = .int .i64 j ∧ Ir w.heap.size wq s (upto ls j) ∧ Below w.heap.size w wq) (fun i _ _ _ => k - (intOf i).toNat)
      case atStart => exact ⟨0, Nat.zero_le _, rfl, ⟨(unhide O2).1, (by
        rcases (unhide O2).2 with h0 | ⟨g, cap, cur, h1, h2, h3⟩
        · exact Or.inl h0
        · exact Or.inr ⟨g, cap, cur, h1, Nat.le_trans sb h2, h3⟩)⟩, unhide B2⟩
      case round =>
        obtain ⟨j, hj, rfl, own, bel⟩ := hrel
        have OW := hide own
        have BE := hide bel
        clear own bel
        by_cases hlt : j < k
        · obtain ⟨p, hp⟩ : ∃ p, ls[j]? = some p := ⟨_, List.getElem?_eq_getElem (by rw [unhide HM]; exact hlt)⟩
          obtain ⟨h1, ao, n, cc, e1, e2, h2⟩ := unhide HL j p hp
          have US := hide (upto_succ hp)
          have hle := upto_le ls (j + 1)
          rw [unhide US, List.length_append, e2] at hle
          have hle2 := unhide HT
          have c1 : wr.cell? (a.add j) = some (.slice ao n cc) := by rw [(unhide BE).cell (blk_lt h1), h1, e1]
          have I2 := hide (h2.below (Below.mono (unhide BE) (Nat.le_refl _)))
          have E2 := hide e2
          have q : (j : Int) < k := by omega
          have LE := hide (Nat.le_trans hle hle2)
          have sz := (unhide BE).size
          clear h1 e1 e2 h2 hle hle2 hp
          go_wp2_with (at_builtin; refine wpList_app rfl (.tmp 31) (.tmp 32) rfl w.heap.size _ (upto ls j) rfl (unhide OW) ao n cc p.2 rfl (unhide E2) (unhide I2) (Nat.le_trans (unhide LE) (by decide)) sz ?_)
          intro v' w' own' g'
          have OWN := hide own'
          have B' := hide ((unhide OW).grown g' (unhide BE) sz)
          clear own' g'
          go_wp2
          go_roundw
          case rel => exact ⟨j + 1, by omega, by go_num, by rw [unhide US]; exact unhide OWN, unhide B'⟩
          case measure => simp [intOf]; omega
        · obtain rfl : j = k := by omega
          go_wp2
          go_ret
          exact ⟨_, rfl, by rw [← unhide UA]; exact unhide OW, unhide BE⟩

theorem Ir.rebase {base base' : Nat} {w : World} {v : Value} {xs : List Int} (h : Ir base w v xs) (hb : base' ≤ base) : Ir base' w v xs :=
  ⟨h.1, by
    rcases h.2 with h0 | ⟨g, cap, cur, h1, h2, h3⟩
    · exact Or.inl h0
    · exact Or.inr ⟨g, cap, cur, h1, Nat.le_trans hb h2, h3⟩⟩
set_option maxHeartbeats 1000000 in
theorem rising_any (a : Addr) (m c : Nat) (ls : List (Value × List Int)) (hm : ls.length = m) (hl : ((ls.map (·.2)).flatten).length ≤ 1000000) (hm2 : m ≤ 1000000) (w : World) (h : Lies w a ls) :
    Calls Try.prog 41 #[.slice (some a) m c] w fun e w' => ∃ ao n cp, e = .returned (.slice ao n cp) ∧ (ris ((ls.map (·.2)).flatten)).length = n ∧ n ≤ cp ∧ n ≤ 1000000 ∧ Fr w' ao (ris ((ls.map (·.2)).flatten)) ∧ Below w.heap.size w w' := by
  have CC := hide (concat_any a m c ls hm hl hm2 w h)
  obtain ⟨xs, hxs⟩ : ∃ xs, (ls.map (·.2)).flatten = xs := ⟨_, rfl⟩
  rw [hxs] at hl CC ⊢
  have HL := hide hl
  clear h hm hxs hl
  go_enter Try.func41, Try.ntmps41
  go_wp2_with fail
  refine (unhide CC).mono ?_
  rintro e w1 ⟨v, rfl, o1, b1⟩
  have SO := hide (sort_ir w1 o1 (unhide HL))
  have B1 := hide b1
  clear o1 b1 CC
  go_wp2_with fail
  refine (unhide SO).mono ?_
  rintro e w2 ⟨rfl, o2, b2⟩
  have CO := hide (comp_ir w2 o2 (by rw [mergeSort_len]; exact unhide HL))
  have B2 := hide ((unhide B1).trans b2)
  clear o2 b2 SO
  go_wp2_with fail
  refine (unhide CO).mono ?_
  rintro e w3 ⟨v3, rfl, o3, b3⟩
  have B3 := hide ((unhide B2).trans b3)
  obtain ⟨ao, cp, rfl, fr, hc, _⟩ := o3.slice
  have FR := hide fr
  have HC := hide hc
  clear o3 b3 CO fr hc
  go_wp2
  go_ret
  exact ⟨_, _, _, rfl, rfl, unhide HC, Nat.le_trans (ris_length xs) (unhide HL), unhide FR, unhide B3⟩
end Go.Proofs.Ytjcidihcmbenhaa

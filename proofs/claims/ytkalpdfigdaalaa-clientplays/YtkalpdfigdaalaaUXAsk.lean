/- The document's table: Ask: a contract. -/
import Derived.Test.YtkalpdfigdaalaaUXTab
namespace Go.Proofs.Ytkalpdfigdaalaa
open Go.RowKit Go.Maps
attribute [local go_sem ↓] Go.wp_at_zero Go.wp_at_succ

def hitOf (c s : Int) (es : List En) : Option Nat := es.findIdx? (fun e => decide (e.client = c ∧ e.seq = s))
def lateOf (c s : Int) (es : List En) : Bool := es.any fun e => decide (e.client = c ∧ s < e.seq)
theorem hit_take {c s : Int} {es : List En} {k : Nat} {g : En} (hg : es[k]? = some g) (h : hitOf c s (es.take k) = none) : (g.client = c ∧ g.seq = s → hitOf c s es = some k) ∧ (¬ (g.client = c ∧ g.seq = s) → hitOf c s (es.take (k + 1)) = none) := by
  unfold hitOf at h ⊢
  rw [List.findIdx?_eq_none_iff] at h
  constructor
  · intro hh
    have hlt := (List.getElem?_eq_some_iff.1 hg).1
    have hge := (List.getElem?_eq_some_iff.1 hg).2
    rw [List.findIdx?_eq_some_iff_getElem]
    refine ⟨hlt, by rw [hge]; simp [hh], fun j hj => ?_⟩
    have := h es[j] (List.mem_of_getElem? (i := j) (by rw [List.getElem?_take_of_lt hj]; exact List.getElem?_eq_getElem (by omega)))
    simpa using this
  · intro hh
    rw [List.findIdx?_eq_none_iff]
    intro x hx
    rw [List.take_add_one, hg, List.mem_append] at hx
    rcases hx with hx | hx
    · exact h x hx
    · simp at hx; subst hx; simpa using hh
theorem late_take {c s : Int} {es : List En} {k : Nat} {g : En} (hg : es[k]? = some g) : lateOf c s (es.take (k + 1)) = (lateOf c s (es.take k) || decide (g.client = c ∧ s < g.seq)) := by
  unfold lateOf
  rw [List.take_add_one, hg, List.any_append]; simp
theorem findOf_hit {c s : Int} {es : List En} (hb : ¬ (c < 1 ∨ s < 1)) {k : Nat} (h : hitOf c s es = some k) : findOf es c s = ((k : Int) + 1, 0) := by
  unfold findOf; rw [if_neg hb]
  unfold hitOf at h; rw [h]
theorem findOf_miss {c s : Int} {es : List En} (hb : ¬ (c < 1 ∨ s < 1)) (h : hitOf c s es = none) : findOf es c s = (0, if lateOf c s es = true then 19 else 2) := by
  unfold findOf; rw [if_neg hb]
  unfold hitOf at h; rw [h]
  unfold lateOf
  simp only
  split <;> rfl
set_option maxRecDepth 20000 in
set_option maxHeartbeats 2000000 in
theorem xask_any {b0 base : Nat} {w : World} {p : Nat} {rv : Value} {es : List En} (h : XTb b0 base w p rv es) (hl : es.length ≤ 1000000) (c s : Int) :
    Calls Try.prog 18 #[.pointer (some ⟨p, 0, none⟩), .int .i64 c, .int .i64 s] w fun e w' => e = .returned (.tuple #[.int .i64 (findOf es c s).1, .int .i64 (findOf es c s).2]) ∧ w' = w := by
  by_cases hb : c < 1 ∨ s < 1
  · rw [findOf_bad hb]
    by_cases h1 : c < 1
    · clear h hb
      go_enter Try.func18, Try.ntmps18
      go_wp2
      refine bodyPost_ret (v := .tuple #[.int .i64 0, .int .i64 1]) (by simp [results, Try.results18, go_sem]) rfl ⟨rfl, rfl⟩
    · have h2 : s < 1 := by omega
      clear h hb
      go_enter Try.func18, Try.ntmps18
      go_wp2
      refine bodyPost_ret (v := .tuple #[.int .i64 0, .int .i64 1]) (by simp [results, Try.results18, go_sem]) rfl ⟨rfl, rfl⟩
  · obtain ⟨hbx, hrow, -, -⟩ := h
    obtain ⟨ao, cap, rfl, -, -⟩ := hrow.slice
    obtain ⟨L, hL⟩ : ∃ L, es.length = L := ⟨_, rfl⟩
    rw [hL] at hbx hrow hl
    have c0 : w.cell? ⟨p, 0, none⟩ = some (.slice ao L cap) := (cell_of_block hbx).trans rfl
    have HR := hide hrow
    have HL := hide hL
    have HB := hide hb
    have h1 : ¬ c < 1 := by omega
    have h2 : ¬ s < 1 := by omega
    clear hbx hrow hL hb
    go_enter Try.func18, Try.ntmps18
    go_wp2
    go_loopw [9, 8, 6, 7] (fun iv ev _ _ wr => ∃ (k : Nat), k ≤ L ∧ iv = .int .i64 k ∧ ev = .int .i64 (if lateOf c s (es.take k) = true then 19 else 2) ∧ hitOf c s (es.take k) = none ∧ wr = w) (fun iv _ _ _ _ => L - (intOf iv).toNat)
    case atStart => exact ⟨0, Nat.zero_le _, rfl, rfl, rfl, rfl⟩
    case round =>
      obtain ⟨k, hk, rfl, rfl, hn, rfl⟩ := hrel
      obtain ⟨ev, hev⟩ : ∃ ev : Int, (if lateOf c s (es.take k) = true then 19 else 2) = ev := ⟨_, rfl⟩
      rw [hev]
      have HEV := hide hev
      have HNO := hide hn
      clear hev hn
      by_cases hlt : k < L
      · obtain ⟨g, hg⟩ : ∃ g, es[k]? = some g := ⟨_, List.getElem?_eq_getElem (by rw [unhide HL]; exact hlt)⟩
        obtain ⟨b, rfl, c1, c2⟩ := (unhide HR).at hg
        have HIT := hit_take hg (unhide HNO)
        have LT := late_take (c := c) (s := s) hg
        obtain ⟨gc, hgc⟩ : ∃ c, g.client = c := ⟨_, rfl⟩
        obtain ⟨gs, hgs⟩ : ∃ c, g.seq = c := ⟨_, rfl⟩
        rw [hgc] at c1 LT HIT
        rw [hgs] at c2 LT HIT
        have HT := hide HIT
        have HLT := hide LT
        have q : (k : Int) < (L : Int) := by omega
        have wk : IntKind.i64.wrap ((k : Int) + 1) = (k : Int) + 1 := IntWalk.i64_in _ (by omega)
        clear hg hgc hgs HIT LT
        by_cases hc : gc = c
        · have hcb : (gc == c) = true := by rw [beq_iff_eq]; exact hc
          by_cases hs : gs = s
          · have hsb : (gs == s) = true := by rw [beq_iff_eq]; exact hs
            have FD := findOf_hit (unhide HB) ((unhide HT).1 ⟨hc, hs⟩)
            have HFD := hide FD
            clear hc hs FD
            go_wp2
            refine bodyPost_ret (v := .tuple #[.int .i64 ((k : Int) + 1), .int .i64 0]) (by simp [results, Try.results18, go_sem]) rfl ⟨by rw [unhide HFD], rfl⟩
          · have hsb : (gs == s) = false := by rw [beq_eq_false_iff_ne]; exact hs
            have NH := hide ((unhide HT).2 (fun h => hs h.2))
            by_cases hgt : gs > s
            · have NL : Hid ((19 : Int) = if lateOf c s (es.take (k + 1)) = true then 19 else 2) := hide (by rw [unhide HLT, decide_eq_true (show gc = c ∧ s < gs from ⟨hc, hgt⟩)]; simp)
              clear hc hs
              go_wp2
              go_roundw
              case rel => exact ⟨k + 1, by omega, by go_num, by rw [← unhide NL], unhide NH, trivial⟩
              case measure => simp [intOf]; omega
            · have NL : Hid (ev = if lateOf c s (es.take (k + 1)) = true then 19 else 2) := hide (by rw [unhide HLT, decide_eq_false (show ¬ (gc = c ∧ s < gs) from fun h => hgt h.2), Bool.or_false]; exact (unhide HEV).symm)
              clear hc hs
              go_wp2
              go_roundw
              case rel => exact ⟨k + 1, by omega, by go_num, by rw [← unhide NL], unhide NH, trivial⟩
              case measure => simp [intOf]; omega
        · have hcb : (gc == c) = false := by rw [beq_eq_false_iff_ne]; exact hc
          have NH := hide ((unhide HT).2 (fun h => hc h.1))
          have NL : Hid (ev = if lateOf c s (es.take (k + 1)) = true then 19 else 2) := hide (by rw [unhide HLT, decide_eq_false (show ¬ (gc = c ∧ s < gs) from fun h => hc h.1), Bool.or_false]; exact (unhide HEV).symm)
          clear hc
          go_wp2
          go_roundw
          case rel => exact ⟨k + 1, by omega, by go_num, by rw [← unhide NL], unhide NH, trivial⟩
          case measure => simp [intOf]; omega
      · obtain rfl : k = L := by omega
        have q : ¬ (k : Int) < (k : Int) := by omega
        have FD : Hid (findOf es c s = (0, ev)) := hide (by
          have e1 := unhide HEV
          have e2 := unhide HNO
          rw [List.take_of_length_le (by rw [unhide HL]; exact Nat.le_refl _)] at e1 e2
          rw [findOf_miss (unhide HB) e2, e1])
        go_wp2
        refine bodyPost_ret (v := .tuple #[.int .i64 0, .int .i64 ev]) (by simp [results, Try.results18, go_sem]) rfl ⟨by rw [unhide FD], rfl⟩
end Go.Proofs.Ytkalpdfigdaalaa

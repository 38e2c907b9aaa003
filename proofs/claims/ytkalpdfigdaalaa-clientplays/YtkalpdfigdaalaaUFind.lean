/- cmp.Compare, compare, slices.BinarySearchFunc, find: contracts. -/
import Derived.Test.YtkalpdfigdaalaaUTab
namespace Go.Proofs.Ytkalpdfigdaalaa
open Go.RowKit Go.Maps
attribute [local go_sem ↓] Go.wp_at_zero Go.wp_at_succ

def cmpOf (a b : Int) : Int := if a < b then -1 else if b < a then 1 else 0
theorem nan_any (a : Int) (w : World) : Calls Try.prog 32 #[.int .i64 a] w fun e w' => e = .returned (.bool false) ∧ w' = w := by
  have q : (a != a) = false := by simp
  go_enter Try.func32, Try.ntmps32
  go_wp2
  go_ret
  exact ⟨rfl, rfl⟩
theorem cmp_any (a b : Int) (w : World) : Calls Try.prog 31 #[.int .i64 a, .int .i64 b] w fun e w' => e = .returned (.int .i64 (cmpOf a b)) ∧ w' = w := by
  have CA := hide (nan_any a w)
  have CB := hide (nan_any b w)
  unfold cmpOf
  by_cases h1 : a < b
  · rw [if_pos h1]
    go_enter Try.func31, Try.ntmps31
    go_wp2_with fail
    refine (unhide CA).mono ?_
    rintro e w' ⟨rfl, rfl⟩
    go_wp2_with fail
    refine (unhide CB).mono ?_
    rintro e w' ⟨rfl, rfl⟩
    go_wp2
    go_ret
    exact ⟨rfl, rfl⟩
  · rw [if_neg h1]
    by_cases h2 : b < a
    · rw [if_pos h2]
      go_enter Try.func31, Try.ntmps31
      go_wp2_with fail
      refine (unhide CA).mono ?_
      rintro e w' ⟨rfl, rfl⟩
      go_wp2_with fail
      refine (unhide CB).mono ?_
      rintro e w' ⟨rfl, rfl⟩
      go_wp2
      go_ret
      exact ⟨rfl, rfl⟩
    · rw [if_neg h2]
      go_enter Try.func31, Try.ntmps31
      go_wp2_with fail
      refine (unhide CA).mono ?_
      rintro e w' ⟨rfl, rfl⟩
      go_wp2_with fail
      refine (unhide CB).mono ?_
      rintro e w' ⟨rfl, rfl⟩
      go_wp2
      go_ret
      exact ⟨rfl, rfl⟩
abbrev cmpF (p : Nat) : Value := .func (.func 27) #[.pointer (some ⟨p, 0, none⟩)] #[]
theorem compare_core {w : World} {p b n cap i : Nat} (s x : Int) (hi : i < n) (hn : n ≤ 1000000) (c0 : w.cell? ⟨p, 0, none⟩ = some (.slice (some ⟨b, 0, none⟩) n cap)) (c2 : w.cell? ⟨b, i * 6 + 2, none⟩ = some (.int .i64 s)) :
    Calls Try.prog 27 #[.pointer (some ⟨p, 0, none⟩), .int .i64 ((i : Int) + 1), .int .i64 x] w fun e w' => e = .returned (.int .i64 (cmpOf s x)) ∧ w' = w := by
  have CC := hide (cmp_any s x w)
  have q1 : wrap64 (i : Int) = (i : Int) := (IntWalk.i64_left _).symm.trans (IntWalk.i64_in _ (by omega))
  have q2 : (i : Int) < (n : Int) := by omega
  have q3 : (0 : Int) ≤ (i : Int) := by omega
  clear hi hn
  go_enter Try.func27, Try.ntmps27
  go_wp2_with fail
  refine (unhide CC).mono ?_
  rintro e w' ⟨rfl, rfl⟩
  go_wp2
  go_ret
  exact ⟨rfl, rfl⟩
/-- the Seq at a place of a client's, held against another one. -/
theorem compare_any {D : Nat → Prop} {w : World} {p q : Nat} {es : List En} (h : Tb D w p q es) (hl : es.length ≤ 1000000) {i : Nat} {e : En} (hi : es[i]? = some e) (x : Int) {pv : Int} (hp : pv = (i : Int) + 1) :
    Calls Try.prog 27 #[.pointer (some ⟨p, 0, none⟩), .int .i64 pv, .int .i64 x] w fun ev w' => ev = .returned (.int .i64 (cmpOf e.seq x)) ∧ w' = w := by
  obtain ⟨⟨A, F, rv, h1, h2, -⟩, -, -⟩ := h
  obtain ⟨ao, cap, rfl, -⟩ := h2.slice
  obtain ⟨b, mo, mc, rfl, -, -, -, c2, -⟩ := h2.at hi
  subst hp
  exact compare_core e.seq x (List.getElem?_eq_some_iff.1 hi).1 hl ((cell_of_block h1).trans rfl) c2

/-- the least place from which on Seqs are not below. -/
def Cut (xs : List Int) (s : Int) (r : Nat) : Prop := r ≤ xs.length ∧ (∀ (i : Nat) (x : Int), xs[i]? = some x → i < r → x < s) ∧ ∀ (i : Nat) (x : Int), xs[i]? = some x → r ≤ i → s ≤ x
theorem half_of (a b : Nat) (ha : a ≤ 1000000) (hb : b ≤ 1000000) : IntKind.u64.wrap (IntKind.i64.wrap ((a : Int) + (b : Int))) = ((a + b : Nat) : Int) := by
  rw [show (a : Int) + (b : Int) = ((a + b : Nat) : Int) by omega, IntWalk.i64_in _ (by omega), IntKind.wrap_u64]
  omega
set_option maxRecDepth 20000 in
set_option maxHeartbeats 2000000 in
theorem bsearch_any {p n cap : Nat} {ao : Option Addr} (ys xs : List Int) (s : Int) (w : World) (hy : ys.length = n) (hx : xs.length = n) (hn : n ≤ 1000000) (ha : IntsR w ao ys) (hr : xs.Pairwise (· < ·))
    (hc : ∀ (i : Nat) (y x : Int), ys[i]? = some y → xs[i]? = some x → Calls Try.prog 27 #[.pointer (some ⟨p, 0, none⟩), .int .i64 y, .int .i64 s] w fun ev w' => ev = .returned (.int .i64 (cmpOf x s)) ∧ w' = w) :
    Calls Try.prog 26 #[.slice ao n cap, .int .i64 s, cmpF p] w fun e w' => ∃ r : Nat, Cut xs s r ∧ e = .returned (.tuple #[.int .i64 (r : Int), .bool (decide (xs[r]? = some s))]) ∧ w' = w := by
  have HC := hide hc
  have HA := hide ha
  have HY := hide hy
  have HX := hide hx
  have HR := hide hr
  clear hc ha hy hx hr
  go_enter Try.func26, Try.ntmps26
  go_wp2
  go_loopw [9, 10, 11] (fun i j _ wr => wr = w ∧ ∃ a b : Nat, i = .int .i64 (a : Int) ∧ j = .int .i64 (b : Int) ∧ a ≤ b ∧ b ≤ n ∧ (∀ (k : Nat) (x : Int), xs[k]? = some x → k < a → x < s) ∧ ∀ (k : Nat) (x : Int), xs[k]? = some x → b ≤ k → s ≤ x) (fun i j _ _ => (intOf j - intOf i).toNat)
  case atStart => exact ⟨rfl, 0, n, rfl, rfl, by omega, by omega, fun k x _ hk => by omega, fun k x hx hk => by have := (List.getElem?_eq_some_iff.1 hx).1; have := unhide HX; omega⟩
  case round =>
    obtain ⟨rfl, a, b, rfl, rfl, hab, hbn, hlo, hhi⟩ := hrel
    by_cases hlt : a < b
    · have q1 : (a : Int) < (b : Int) := by omega
      obtain ⟨h, hh⟩ : ∃ h : Nat, (a + b) / 2 = h := ⟨_, rfl⟩
      have qh : ((a : Int) + (b : Int)) / 2 = (h : Int) := by omega
      have q2 : (h : Int) < (n : Int) := by omega
      have q3 : (0 : Int) ≤ (h : Int) := by omega
      have hah : a ≤ h := by omega
      have hhb : h < b := by omega
      obtain ⟨ad, rfl, cy⟩ := (unhide HA) h (by rw [unhide HY]; omega)
      obtain ⟨y, ey⟩ : ∃ y, ys[h]? = some y := ⟨_, List.getElem?_eq_getElem (by rw [unhide HY]; omega)⟩
      obtain ⟨x, ex⟩ : ∃ x, xs[h]? = some x := ⟨_, List.getElem?_eq_getElem (by rw [unhide HX]; omega)⟩
      have cy' : wr.cell? (ad.add h) = some (.int .i64 y) := by rw [cy, List.getD_eq_getElem?_getD, ey]; rfl
      have CC := hide (unhide HC h y x ey ex)
      have EX := hide ex
      have HLO := hide hlo
      have HHI := hide hhi
      clear cy ey ex hlo hhi hh
      by_cases hxs : x < s
      · have q4 : cmpOf x s < 0 := by unfold cmpOf; rw [if_pos hxs]; decide
        go_wp2_with fail
        refine (unhide CC).mono ?_
        rintro e w' ⟨rfl, rfl⟩
        go_wp2
        go_roundw
        case rel =>
          refine ⟨trivial, h + 1, b, by go_num, rfl, by omega, hbn, fun k z hz hk => ?_, unhide HHI⟩
          by_cases hkh : k = h
          · subst hkh; rw [unhide EX] at hz; cases hz; exact hxs
          · have := List.pairwise_iff_getElem.1 (unhide HR)
            have e1 := List.getElem?_eq_some_iff.1 hz
            have e2 := List.getElem?_eq_some_iff.1 (unhide EX)
            have := this k h e1.1 e2.1 (by omega)
            rw [e1.2, e2.2] at this; omega
        case measure => simp [intOf]; omega
      · have q4 : ¬ cmpOf x s < 0 := by unfold cmpOf; rw [if_neg hxs]; split <;> decide
        go_wp2_with fail
        refine (unhide CC).mono ?_
        rintro e w' ⟨rfl, rfl⟩
        go_wp2
        go_roundw
        case rel =>
          refine ⟨trivial, a, h, rfl, rfl, by omega, by omega, unhide HLO, fun k z hz hk => ?_⟩
          by_cases hkh : k = h
          · subst hkh; rw [unhide EX] at hz; cases hz; omega
          · have := List.pairwise_iff_getElem.1 (unhide HR)
            have e1 := List.getElem?_eq_some_iff.1 hz
            have e2 := List.getElem?_eq_some_iff.1 (unhide EX)
            have := this h k e2.1 e1.1 (by omega)
            rw [e1.2, e2.2] at this; omega
        case measure => simp [intOf]; omega
    · obtain rfl : a = b := by omega
      have q1 : ¬ (a : Int) < (a : Int) := by omega
      have HCUT : Hid (Cut xs s a) := hide ⟨by rw [unhide HX]; exact hbn, hlo, hhi⟩
      clear hlo hhi
      by_cases hlen : a < n
      · have q2 : (a : Int) < (n : Int) := by omega
        have q3 : (0 : Int) ≤ (a : Int) := by omega
        obtain ⟨ad, rfl, cy⟩ := (unhide HA) a (by rw [unhide HY]; omega)
        obtain ⟨y, ey⟩ : ∃ y, ys[a]? = some y := ⟨_, List.getElem?_eq_getElem (by rw [unhide HY]; omega)⟩
        obtain ⟨x, ex⟩ : ∃ x, xs[a]? = some x := ⟨_, List.getElem?_eq_getElem (by rw [unhide HX]; omega)⟩
        have cy' : wr.cell? (ad.add a) = some (.int .i64 y) := by rw [cy, List.getD_eq_getElem?_getD, ey]; rfl
        have CC := hide (unhide HC a y x ey ex)
        have EX := hide ex
        clear cy ey ex
        by_cases hxs : x = s
        · have q4 : cmpOf x s = 0 := by subst hxs; simp [cmpOf]
          rw [q4] at CC
          clear q4
          go_wp2_with fail
          refine (unhide CC).mono ?_
          rintro e w' ⟨rfl, rfl⟩
          go_wp2
          refine bodyPost_ret (v := .tuple #[.int .i64 (a : Int), .bool true]) (by simp [results, Try.results26, go_sem]) rfl ?_
          exact ⟨a, unhide HCUT, by rw [unhide EX, hxs]; simp, rfl⟩
        · obtain ⟨z, q4⟩ : ∃ z, cmpOf x s = z := ⟨_, rfl⟩
          have q5 : ¬ z = 0 := by
            rw [← q4]; unfold cmpOf
            by_cases h1 : x < s
            · rw [if_pos h1]; decide
            · rw [if_neg h1, if_pos (by omega)]; decide
          have q6 : (z == 0) = false := by simp [q5]
          rw [q4] at CC
          clear q4
          go_wp2_with fail
          refine (unhide CC).mono ?_
          rintro e w' ⟨rfl, rfl⟩
          go_wp2
          refine bodyPost_ret (v := .tuple #[.int .i64 (a : Int), .bool false]) (by simp [results, Try.results26, go_sem]) rfl ?_
          exact ⟨a, unhide HCUT, by rw [unhide EX]; simp [hxs], rfl⟩
      · have q2 : ¬ (a : Int) < (n : Int) := by omega
        go_wp2
        refine bodyPost_ret (v := .tuple #[.int .i64 (a : Int), .bool false]) (by simp [results, Try.results26, go_sem]) rfl ?_
        exact ⟨a, unhide HCUT, by rw [List.getElem?_eq_none (by rw [unhide HX]; omega)]; simp, rfl⟩
/-- what find answers: the place, and a refusal around the number. -/
def FindOut (r : Int × Int) (v : Value) (w : World) : Prop := (r.2 = 0 ∧ v = .nilIface) ∨ (r.2 ≠ 0 ∧ r.1 = 0 ∧ ∃ b, v = refV b ∧ Ref w b r.2)
set_option maxRecDepth 20000 in
set_option maxHeartbeats 2000000 in
theorem find_any {D : Nat → Prop} {w : World} {p q : Nat} {es : List En} (h : Tb D w p q es) (hl : es.length ≤ 1000000) (hr : Rise es) (c s : Int) (hc : wf64 c) :
    Calls Try.prog 19 #[.pointer (some ⟨p, 0, none⟩), .int .i64 c, .int .i64 s] w fun e w' => ∃ v, e = .returned (.tuple #[.int .i64 (findOf es c s).1, v]) ∧ FindOut (findOf es c s) v w' ∧ Below w.heap.size w w' := by
  by_cases hb : c < 1 ∨ s < 1
  · rw [findOf_bad hb]
    by_cases h1 : c < 1
    · clear h hr hb
      go_enter Try.func19, Try.ntmps19
      go_wp2
      refine bodyPost_ret (v := .tuple #[.int .i64 0, refV w.heap.size]) (by simp [results, Try.results19, go_sem, refV]) rfl ?_
      exact ⟨_, rfl, Or.inr ⟨by decide, rfl, _, rfl, Ref.new _ _ _ _ rfl⟩, (Below.refl _ w).alloc (Nat.le_refl _) _⟩
    · have h2 : s < 1 := by omega
      clear h hr hb
      go_enter Try.func19, Try.ntmps19
      go_wp2
      refine bodyPost_ret (v := .tuple #[.int .i64 0, refV w.heap.size]) (by simp [results, Try.results19, go_sem, refV]) rfl ?_
      exact ⟨_, rfl, Or.inr ⟨by decide, rfl, _, rfl, Ref.new _ _ _ _ rfl⟩, (Below.refl _ w).alloc (Nat.le_refl _) _⟩
  · have h1 : ¬ c < 1 := by omega
    have h2 : ¬ s < 1 := by omega
    obtain ⟨A, F, rv, b1, b2, b3, -⟩ := h.parts
    have c1 : w.cell? ⟨p, 1, none⟩ = some (.map (some q)) := (cell_of_block b1).trans rfl
    obtain ⟨ao, cap, lk, hi, -⟩ := b3.look hc
    obtain ⟨n, hn⟩ : ∃ n, (plc c es).length = n := ⟨_, rfl⟩
    have hsn : (sq c es).length = n := by rw [← plc_len]; exact hn
    rw [hn] at lk hi
    obtain ⟨ao', cap', e, hfr, -⟩ := hi.slice
    rw [ints_len, hn] at e
    cases e
    have hn6 : n ≤ 1000000 := by have := sq_le c es; omega
    have CB := bsearch_any (p := p) (cap := cap) (ints (plc c es)) (sq c es) s w (by rw [ints_len]; exact hn) hsn hn6 hfr.1 (hr c) (fun i y x hy hx => by
      rw [ints, List.getElem?_map] at hy
      cases hz : (plc c es)[i]? with
      | none => rw [hz] at hy; simp at hy
      | some z =>
        rw [hz] at hy; simp at hy
        obtain ⟨k, e, hk, he, -, hs⟩ := plc_at hz
        rw [hx] at hs; cases hs
        exact compare_any h hl he s (by rw [← hy, hk]; omega))
    have FA : ∀ r : Nat, Cut (sq c es) s r → (sq c es)[r]? = some s → ∃ (z : Nat) (f : Int), (plc c es)[r]? = some z ∧ findOf es c s = ((z : Int), 0) ∧ f = z := fun r _ hs => by
      have hlt := (List.getElem?_eq_some_iff.1 hs).1
      obtain ⟨z, hz⟩ : ∃ z, (plc c es)[r]? = some z := ⟨_, List.getElem?_eq_getElem (by omega)⟩
      obtain ⟨k, e, hk, he, hcl, hs'⟩ := plc_at hz
      rw [hs] at hs'; cases hs'
      exact ⟨z, z, hz, by rw [findOf_at hr hb he hcl rfl, hk]; rfl, rfl⟩
    have FN : ∀ r : Nat, Cut (sq c es) s r → (sq c es)[r]? ≠ some s → findOf es c s = if r < n then (0, 19) else (0, 2) := fun r hcut hne => by
      have hm : s ∉ sq c es := fun hmem => by
        obtain ⟨k, hk⟩ := List.getElem?_of_mem hmem
        by_cases hkr : k < r
        · have := hcut.2.1 k s hk hkr; omega
        · by_cases hkr' : k = r
          · subst hkr'; exact hne hk
          · have e1 := List.getElem?_eq_some_iff.1 hk
            obtain ⟨x, hx⟩ : ∃ x, (sq c es)[r]? = some x := ⟨_, List.getElem?_eq_getElem (by have := e1.1; omega)⟩
            have e2 := List.getElem?_eq_some_iff.1 hx
            have := List.pairwise_iff_getElem.1 (hr c) r k e2.1 e1.1 (by omega)
            rw [e1.2, e2.2] at this
            have := hcut.2.2 r x hx (Nat.le_refl _)
            omega
      rw [findOf_none hb hm]
      by_cases hrn : r < n
      · rw [if_pos hrn, if_pos]
        obtain ⟨x, hx⟩ : ∃ x, (sq c es)[r]? = some x := ⟨_, List.getElem?_eq_getElem (by omega)⟩
        refine ⟨x, List.mem_of_getElem? hx, ?_⟩
        have := hcut.2.2 r x hx (Nat.le_refl _)
        have : x ≠ s := fun e => hne (e ▸ hx)
        omega
      · rw [if_neg hrn, if_neg]
        rintro ⟨x, hx, hlt⟩
        obtain ⟨k, hk⟩ := List.getElem?_of_mem hx
        have := (List.getElem?_eq_some_iff.1 hk).1
        have := hcut.2.1 k x hk (by omega)
        omega
    have CB' := hide CB
    have HFA := hide FA
    have HFN := hide FN
    have HI := hide hfr.1
    have HN := hide hn
    clear h hr hb b1 b2 b3 hi hfr CB FA FN hsn hn hc
    go_enter Try.func19, Try.ntmps19
    go_wp2_with fail
    refine (unhide CB').mono ?_
    rintro e w1 ⟨r, hcut, rfl, rfl⟩
    have HCUT := hide hcut
    clear hcut
    by_cases hs : (sq c es)[r]? = some s
    · rw [decide_eq_true hs]
      obtain ⟨z, f, hz, hf, -⟩ := unhide HFA r (unhide HCUT) hs
      have hrn := (List.getElem?_eq_some_iff.1 hz).1
      rw [unhide HN] at hrn
      obtain ⟨ad, rfl, cz⟩ := (unhide HI) r (by rw [ints_len, unhide HN]; exact hrn)
      rw [ints_at _ hz] at cz
      have q2 : (r : Int) < (n : Int) := by omega
      have q3 : (0 : Int) ≤ (r : Int) := by omega
      have HF := hide hf
      clear hf hs hz
      go_wp2
      refine bodyPost_ret (v := .tuple #[.int .i64 (z : Int), .nilIface]) (by simp [results, Try.results19, go_sem]) rfl ?_
      rw [unhide HF]
      exact ⟨_, rfl, Or.inl ⟨rfl, rfl⟩, Below.refl _ _⟩
    · rw [decide_eq_false hs]
      have hf := unhide HFN r (unhide HCUT) hs
      by_cases hrn : r < n
      · rw [if_pos hrn] at hf
        have q2 : (r : Int) < (n : Int) := by omega
        have HF := hide hf
        clear hf hs lk c1
        go_wp2
        refine bodyPost_ret (v := .tuple #[.int .i64 0, refV w1.heap.size]) (by simp [results, Try.results19, go_sem, refV]) rfl ?_
        rw [unhide HF]
        exact ⟨_, rfl, Or.inr ⟨by decide, rfl, _, rfl, Ref.new _ _ _ _ rfl⟩, (Below.refl _ w1).alloc (Nat.le_refl _) _⟩
      · rw [if_neg hrn] at hf
        have q2 : ¬ (r : Int) < (n : Int) := by omega
        have HF := hide hf
        clear hf hs lk c1
        go_wp2
        refine bodyPost_ret (v := .tuple #[.int .i64 0, refV w1.heap.size]) (by simp [results, Try.results19, go_sem, refV]) rfl ?_
        rw [unhide HF]
        exact ⟨_, rfl, Or.inr ⟨by decide, rfl, _, rfl, Ref.new _ _ _ _ rfl⟩, (Below.refl _ w1).alloc (Nat.le_refl _) _⟩
end Go.Proofs.Ytkalpdfigdaalaa
